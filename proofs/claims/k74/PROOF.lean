import PyProof.Rows.All
import Wide.All
import OpenK.AllK
import Wide.FinOn
import HandS.ForMost
import HandS.Wide
import HandS.Codes
import PyProof.ReprRoads
import HandS.Zip
import HandS.Walk
import PyProof.WalkInts
import PyProof.WalksMore
import HandS.Conv
import HandS.IsInst
import HandS.Style
import HandS.TupAny
import HandS.ForExc
import HandS.ExcIs
import HandS.ExcInit
import HandS.ExcField
import HandS.ExcOwn
import KE.KExcIs
import KE.KExcInit
import PyProof.ExcBaseAll.LookupError
import HandS.Lambda
import HandS.Dict
import HandS.OwnEq
import HandS.SlotsOwn
import KE.KCallOwn
import KE.KOpsOwn
import KE.KFmtOwn
import OpenK.KMeth
import HandS.List
import KE.DataEq
import KE.GoesEnum
import PyProof.LongRange
import PyProof.SumWalkG
import HandS.Sort
import HandS.TupMul
import HandS.TupSets
import PySem.Challenge.RW_smallchange_k74_whole_purses_go_the_way
set_option Elab.async false
set_option linter.all false
set_option maxRecDepth 100000
set_option maxHeartbeats 4000000
namespace Sm
open PySem PySem.Spec PyProof.Rows L2
/-! ### promises of defs where no repr is under way: as FnOk, with A's guards empty -/
structure FnG (P : Program) (w : World) (K : PySem.W.Frag) (mg : Str → Option Value) (base : Heap) (k : Nat) (f : Addr) (fd : FuncData) (ps : List Str) (sp : Sp) : Prop where
  len : ∀ vs H Q E, sp vs H Q E → vs.length = ps.length
  run : ∀ (A : Around) (outer : List Env) (s : Shared) (H : Hp) (args : Args) (us : List Value) (vs : List V) (Q : VK) (E : XK), A.guards = some [] → Room k A →
    Env0 P w K mg base A outer s H → BindsTo s fd args (ps.zip us) → Vals vs us → sp vs H Q E → codeAny (model P w) A (.call (.ref f) args) (CR CX0 outer P w H s Q E) s
section
variable {P : Program} {w : World} {K : PySem.W.Frag} {mg : Str → Option Value} {base : Heap} {k : Nat} {f : Addr} {fd : FuncData} {ps : List Str} {sp : Sp}
theorem FnG.of (F : FnOk P w K mg base CX0 k f fd ps sp) : FnG P w K mg base k f fd ps sp :=
  ⟨F.len, fun A outer s H args us vs Q E _ hr e b v h => F.run A outer s H args us vs Q E hr e b v h⟩
theorem FnG.body {x : Str} {st : Stmt} {N : List Str} (F : Fun K x x st f fd) (S : FnScope N ps (defScope st)) (len : ∀ vs H Q E, sp vs H Q E → vs.length = ps.length)
    (hb : ∀ (cdv : Value) (A : Around) (outer : List Env) (s : Shared) (H : Hp) (vs : List V) (Q : VK) (E : XK), A.guards = some [] → Room k (A.deeper (envOfC x (defScope st) s.heap.objs.size f cdv)) → sp vs H Q E →
      ∃ t, PSs (cxOf CX0 P w K mg base N x (defScope st) f cdv A outer s H E).nox (defBody st) t ∧ t { nx := fun _ H' => Q .non H', rt := Q } (start N vs) H) : FnG P w K mg base (k + 1) f fd ps sp := by
  obtain ⟨oc, od, kV, doc, pm, an, cdv, ct, osl, efd, look, code⟩ := F.ex
  subst efd
  constructor
  · exact len
  intro A outer s H args us vs Q E guard room e0 bind rel want
  have inn : K.In s.heap := e0.mod.kin.keeps fun b o e => (e0.bs b o e).1
  have nolim : s.heap.NoLimit := e0.mod.nolimit.keeps fun b o e => (e0.bs b o e).1
  refine codeAny_call_function room.depth (inn _ _ look) rfl S.co S.gen rfl (PySem.W.codeRec_of inn code) (bind _ _ _ _ ?_)
  refine wpAny_newFunctionEnv_cells S.kind ?_ ?_
  · rintro ⟨n, v⟩ there
    have := S.par n (List.of_mem_zip there).1
    cases this with
    | inl q => exact .inl q
    | inr q => exact .inr ⟨q, PySem.W.cellsFrom_some _ _ _ (.inl q)⟩
  · intro env eenv s1 laid
    subst eenv
    refine ⟨nolim.keeps laid.toInCall.keep, codeAny_func ?_⟩
    obtain ⟨t, der, goal⟩ := hb cdv A outer s H vs Q E guard (room.deeper _) want
    have I := inv_start (CX := CX0) (E := E) S room.hd e0 (len _ _ _ _ want) rel laid
    refine wpAny_mono (der.nox.run [] s1 (start N vs) H _ I goal) (fun out s' got => ?_) fun e s' got => got
    match out, got with
    | .ret u, ⟨v, σ', H', J, rv, q⟩ => exact ⟨v, H', J.os, J.bare, J.base, J.hok, rv, q⟩
    | .next, ⟨σ', H', J, q⟩ => exact ⟨V.non, H', J.os, J.bare, J.base, J.hok, rfl, q⟩
    | .brk, ⟨_, _, _, q⟩ => exact q.elim
    | .cont, ⟨_, _, _, q⟩ => exact q.elim
end
section
variable {X : Cx} {k : Nat} {f : Addr} {fd : FuncData} {ps : List Str} {sp : Sp} {x : Str} {p pos : Pos} {e : Expr} {es : List Expr} {t : TA}
theorem pe_callG (F : FnG X.prog X.w X.K X.mg X.base k f fd ps sp) (gu : X.A.guards = some []) (hr : Room k X.A) (hg : Gl X x) (hm : X.mg x = some (.ref f)) (hk : PySem.W.keepIn X.K (.ref f) = true) (hb : Binds X.K fd ps [])
    (ha : PA X (e :: es) t) (hdb : (x == ("__debug__" : Str)) = false := by decide) (he : starEach (e :: es) X.env = (false, eval e X.env) :: starEach es X.env := by rfl) (hpl : (backTo pos (starEach es X.env)).any (·.1) = false := by rfl) :
    PE X (.Call (.Name x p) (e :: es) [] pos) (tCall sp [] E0 t) := by
  constructor
  intro pins s σ H Q I want
  refine wpAny_Call_Name_kw (ld_glob I hg hm ?_ hdb)
  refine PySem.W.callWith_K (h₀ := X.base) I.ok.mod.kin hk (thn (ha.run pos pins s σ H _ I want) ?_) he hpl
  rintro us s1 ⟨vs, H1, I1, rel, q⟩
  refine ⟨I1.kIn, ?_⟩
  have q : sp vs H1 Q E0 := by
    have q : sp (vs ++ []) H1 Q E0 := q
    rw [List.append_nil] at q
    exact q
  have b := hb s1 us I1.kIn (by rw [List.append_nil, ← rel.length]; exact F.len _ _ _ _ q)
  rw [List.append_nil] at b
  refine wpAny_call (codeAny_mono (F.run X.A X.stack s1 H1 ⟨us, []⟩ us vs Q E0 gu hr I1.env0 b rel q) ?_)
  rintro (e | out) s' got
  · exact got.elim
  · match out, got with
    | .ret u, got => exact I1.after got
    | .next, got => exact got.elim
    | .brk, got => exact got.elim
    | .cont, got => exact got.elim
/-- repr of data at any depth -/
theorem call_repr_data (gu : X.A.guards = some []) (room : ∃ k, Room k X.A) : CallR X (.builtin "repr") (fun xs H Q => ∃ a d, xs = [.ref a] ∧ Dp X.K H (.ref a) d ∧ PyData.showable d = true ∧ PyData.hasDict d = false ∧ d.depth ≤ 60 ∧ d.shown.length ≤ sizeLine ∧ Q (.str d.shown) H) := by
  intro pins s σ H xs us Q I rel want
  obtain ⟨a, d, rfl, data, sh, nd, dep, len, q⟩ := want
  obtain ⟨u, rfl, ru⟩ := vals1 rel
  obtain ⟨as, reads⟩ := Dp.reads I d _ u data ru
  cases ru
  obtain ⟨k, room⟩ := room
  have un := room.un
  exact repr_of_reads' reads sh (PyData.noDict_hsm nd) gu (by omega) (fun _ _ e => e) (fun h' v tk keep => ⟨.str d.shown, H, I.kept keep, ⟨_, rfl⟩, q⟩) len
end
/-! ### the law's own call, at the caller's place -/
theorem law_at {P : Program} {w : World} {K : PySem.W.Frag} {mg mb : Str → Option Value} {k : Nat} {fa a : Addr} {fd : FuncData} {x : Str} {sp : Sp} {s₁ : Shared} {vs : List Value} {ns : List Int}
    (KX : K.In s₁.heap) (hns : s₁.heap.Ns mainGlobals mg) (hb : s₁.heap.Ns builtinsNs mb) (hbb : ∀ x : Str, x ≠ "__name__" → mb x = bootBuiltins x) (hlim : s₁.heap.NoLimit) (hg : s₁.gens = #[])
    (ha : s₁.heap.get? a = some { cls := .type "list", data := .seq vs.toArray }) (hi : IntsAre vs ns) (hl : ns.length ≤ sizeLine) (hr : Room k callerA)
    (F : ∀ base : Heap, K.In base → base.Ns mainGlobals mg → FnG P w K mg base k fa fd [x] sp) (hbind : ∀ (s : Shared) (u : Value), BindsTo s fd ⟨[u], []⟩ [(x, u)])
    (hsp : ∀ H : Hp, SqL K H a (ns.map V.int) → sp [.ref a] H (fun v _ => v = .bl true) E0) :
    codeAny (model P w) callerA (.call (.ref fa) ⟨[.ref a], []⟩) (fun r s' => r = .ok (.ret (.bool true)) ∧ OldK s₁.heap s'.heap ∧ s'.os = s₁.os ∧ AllBare s'.gens) s₁ := by
  have ivs := vals_ints hi
  -- what is tracked: the script, if the module does not hold it itself
  obtain ⟨H, seq, ok, only, free⟩ : ∃ H : Hp, SqL K H a (ns.map V.int) ∧ HOk P w H s₁.heap ∧ (∀ b u, H b = some u → b = a ∧ u = .frz { cls := .type "list", data := .seq vs.toArray } (.lst (ns.map V.int))) ∧ ∀ b u, H b = some u → K.lookup b = none := by
    cases look : K.lookup a with
    | some o =>
      have same := KX a o look
      rw [ha] at same
      injection same with same
      subst same
      have empty : ∀ {u : HO}, (none : Option HO) = some u → False := fun z => nomatch z
      refine ⟨fun _ => none, .inr ⟨_, vs.toArray, _, look, rfl, rfl, rfl, ?_, ?_⟩, fun b u z => (empty z).elim, fun b u z => (empty z).elim, fun b u z => (empty z).elim⟩
      · rw [List.size_toArray, hi.length]
        exact hl
      · simpa using ivs
    | none =>
      have at_a : ∀ b u, (fun b => if b = a then some (HO.frz { cls := .type "list", data := .seq vs.toArray } (.lst (ns.map V.int))) else none : Hp) b = some u → b = a ∧ u = .frz { cls := .type "list", data := .seq vs.toArray } (.lst (ns.map V.int)) := by
        intro b u z
        by_cases e : b = a
        · have z := (if_pos e).symm.trans z
          exact ⟨e, (Option.some.inj z).symm⟩
        · exact nomatch (if_neg e).symm.trans z
      refine ⟨_, .inl (.inr ⟨_, if_pos rfl⟩), fun b u z => ?_, at_a, fun b u z => ?_⟩
      · obtain ⟨rfl, rfl⟩ := at_a b u z
        exact ⟨ha, by rw [List.length_map]; exact hl, vs, _, ivs, ha⟩
      · rw [(at_a b u z).1]
        exact look
  have stays : ∀ {b : Addr} {o : Obj}, s₁.heap.get? b = some o → (∀ u, H b ≠ some u) → (hidT s₁.heap H).get? b = some o := fun {b o} e no => hidT_get e (by
    cases z : H b with
    | none => rfl
    | some u => exact (no u z).elim)
  have spaces : ∀ {b : Addr} {m : Str → Option Value}, s₁.heap.Ns b m → (hidT s₁.heap H).Ns b m := by
    rintro b m ⟨o, es, ep, there, data, rest⟩
    refine ⟨o, es, ep, stays there fun u z => ?_, data, rest⟩
    rw [(only b u z).1, ha] at there
    injection there with there
    subst there
    exact nomatch data
  have inn : K.In (hidT s₁.heap H) := fun b o e => stays (KX b o e) fun u z => by
    rw [free b u z] at e
    exact nomatch e
  have mod : Mod K mg (hidT s₁.heap H) := by
    obtain ⟨mc, c1, c2⟩ := hlim
    exact ⟨inn, spaces hns, ⟨mb, spaces hb, hbb⟩, mc, spaces c1, c2⟩
  have e0 : Env0 P w K mg (hidT s₁.heap H) callerA [] s₁ H := by
    refine ⟨rfl, mod, fun b o e => of_hidT e, Nat.le_of_eq (hidT_size _ _), trivial, ?_, ok, .of_eq hg⟩
    intro b q
    exact absurd q (List.not_mem_nil (a := b))
  refine codeAny_mono ((F _ inn (spaces hns)).run callerA [] s₁ H ⟨[.ref a], []⟩ [.ref a] [.ref a] _ _ rfl hr e0 (hbind s₁ (.ref a)) (.cons rfl .nil) (hsp H seq)) ?_
  rintro (e | out) s' got
  · exact got.elim
  · match out, got with
    | .next, got => exact got.elim
    | .brk, got => exact got.elim
    | .cont, got => exact got.elim
    | .ret u, ⟨v, H', os, bare, un, ok', rel, q⟩ =>
      have q : v = V.bl true := q
      subst q
      have rel : u = Value.bool true := rel
      subst rel
      refine ⟨rfl, .of_keep fun b o e => ?_, os, bare⟩
      cases z : H b with
      | none => exact un.keep b o e z (List.not_mem_nil (a := b)) (List.not_mem_nil (a := b))
      | some u =>
        obtain ⟨rfl, rfl⟩ := only b u z
        have now := (ok' _ _ (un.frzs _ _ _ z)).1
        rw [ha] at e
        injection e with e
        rw [← e]
        exact now
theorem walk_at_law {l : PySem.W.OpenLaw} {k : Nat} {q : Program} {loose : List Str} {XP : (Str → Option Value) → Heap → Prop} {YP : World → Heap → Prop} {d : DefRec} {K : Params → PySem.W.Frag} {sp : PySem.W.Frag → Sp} {x : Str}
    (hn : l.most = some 63) (hdf : d.params.defaults = []) (hr : Room k callerA) (hY : ∀ (w : World) (h : Heap), YP w h → (K w.params).In h)
    (F : ∀ (w : World) (mg : Str → Option Value) (fa : Addr) (h : Heap), (K w.params).In h → h.Ns mainGlobals mg → mg d.name = some (.ref fa) →
      ∃ fd : FuncData, (∀ (s : Shared) (u : Value), BindsTo s fd ⟨[u], []⟩ [(x, u)]) ∧ ∀ base : Heap, (K w.params).In base → base.Ns mainGlobals mg → FnG l.prog w (K w.params) mg base k fa fd [x] (sp (K w.params)))
    (hsp : ∀ (K : PySem.W.Frag) (H : Hp) (a : Addr) (ns : List Int), ns.length ≤ 63 → SqL K H a (ns.map V.int) → sp K [.ref a] H (fun v _ => v = .bl true) E0) :
    PySem.W.WalkO q loose XP YP l.row.toRowW d [] (fun f vs => PySem.call f vs) := by
  refine Att.attach_call hn hdf ?_
  intro w s₀ s₁ mg mb fa o pm cd doc a vs ns G Y ho hd hcd hmg hobj hints hlen hg
  obtain ⟨fd, bind, each⟩ := F w mg fa _ (hY w _ Y) G.T.g hmg
  exact law_at (hY w _ Y) G.T.g G.T.b G.T.builtins G.T.nolimit hg hobj hints (Nat.le_trans hlen (by decide)) hr each bind fun H sq => hsp (K w.params) H a ns hlen sq
end Sm

set_option Elab.async false
set_option linter.all false
set_option maxRecDepth 100000
set_option maxHeartbeats 4000000
namespace Sm
open PySem PySem.Spec PyProof.Rows L2
section
variable {P : Program} {w : World} {K : PySem.W.Frag} {mg : Str → Option Value} {base : Heap}
def Df (K : PySem.W.Frag) (mg : Str → Option Value) (x : Str) (st : Stmt) (ps : List Str) : Prop :=
  ∃ (f : Addr) (fd : FuncData), Fun K x x st f fd ∧ mg x = some (.ref f) ∧ Binds K fd ps []
def Cal (P : Program) (w : World) (K : PySem.W.Frag) (mg : Str → Option Value) (base : Heap) (x : Str) (ps : List Str) (k : Nat) (sp : Sp) : Prop :=
  ∃ (f : Addr) (fd : FuncData), FnOk P w K mg base CX0 k f fd ps sp ∧ mg x = some (.ref f) ∧ PySem.W.keepIn K (.ref f) = true ∧ Binds K fd ps []
theorem Df.cal {x : Str} {st : Stmt} {N ps : List Str} {k : Nat} {sp : Sp} (D : Df K mg x st ps) (S : FnScope N ps (defScope st)) (len : ∀ vs H Q E, sp vs H Q E → vs.length = ps.length)
    (hbody : ∀ (f : Addr) (cdv : Value) (A : Around) (outer : List Env) (s : Shared) (H : Hp) (vs : List V) (Q : VK) (E : XK), Room k (A.deeper (envOfC x (defScope st) s.heap.objs.size f cdv)) → sp vs H Q E →
      ∃ t, PSs (cxOf CX0 P w K mg base N x (defScope st) f cdv A outer s H E).nox (defBody st) t ∧ t { nx := fun _ H' => Q .non H', rt := Q } (start N vs) H) : Cal P w K mg base x ps (k + 1) sp := by
  obtain ⟨f, fd, F, m, b⟩ := D
  exact ⟨f, fd, F.ok S len (fun cdv A outer s H vs Q E hr h => hbody f cdv A outer s H vs Q E hr h), m, F.kp, b⟩
theorem same_upd {H : Hp} {p : Addr} {o : HO} (h : H p = none) : Same H (upd H p o) := fun b x e => by
  rw [upd_ne (ne_of_none e h)]
  exact e
theorem iteP {p A B : Prop} [Decidable p] (h : p) (a : A) : if decide p = true then A else B := by
  rw [decide_eq_true h]
  exact iteT a
theorem iteN {p A B : Prop} [Decidable p] (h : ¬ p) (b : B) : if decide p = true then A else B := by
  rw [decide_eq_false h]
  exact iteF b
theorem iteNP {p A B : Prop} [Decidable p] (h : p) (b : B) : if (!decide p) = true then A else B := by
  rw [decide_eq_true h]
  exact iteF b
theorem iteNN {p A B : Prop} [Decidable p] (h : ¬ p) (a : A) : if (!decide p) = true then A else B := by
  rw [decide_eq_false h]
  exact iteT a
theorem ite3 {p A B : Prop} [Decidable p] (h1 : p → A) (h2 : ¬ p → B) : if decide p = true then A else B := by
  by_cases h : p
  · exact iteP h (h1 h)
  · exact iteN h (h2 h)
theorem fmod_pos {a b : Int} (h : 0 < b) : a.fmod b = a % b := Int.fmod_eq_emod_of_nonneg a (by omega)
end
/-! ### the deck -/
structure Deck (H : Hp) (p l : Addr) (n : Int) : Prop where
  hp : H p = some (.lst [.ref l, .int n])
  hl : ∃ cells : List Int, H l = some (.lst (cells.map V.int)) ∧ (∀ c ∈ cells, 0 ≤ c) ∧ cells.length ≤ 63
theorem deck_ne {l : Addr} {n : Int} {cells : List Int} : HO.lst [.ref l, .int n] ≠ HO.lst (cells.map V.int) := by
  intro q
  injection q with q
  cases cells with
  | nil => cases q
  | cons c r => cases (List.cons.inj q).1
/-- all but the deck is as it was -/
def Fr (p l : Addr) (H H' : Hp) : Prop := ∀ b o, b ≠ p → b ≠ l → H b = some o → H' b = some o
theorem Fr.trans {p l : Addr} {H H1 H2 : Hp} (a : Fr p l H H1) (b : Fr p l H1 H2) : Fr p l H H2 := fun c o h1 h2 h => b c o h1 h2 (a c o h1 h2 h)
theorem Same.fr {p l : Addr} {H H' : Hp} (s : Same H H') : Fr p l H H' := fun b o _ _ h => s b o h
theorem Deck.same {H H' : Hp} {p l : Addr} {n : Int} (D : Deck H p l n) (s : Same H H') : Deck H' p l n := by
  obtain ⟨cells, hl, hc⟩ := D.hl
  exact ⟨s _ _ D.hp, cells, s _ _ hl, hc⟩
theorem Fr.tup {H H' : Hp} {p l b : Addr} {n : Int} {xs : List V} (f : Fr p l H H') (D : Deck H p l n) (h : H b = some (.tup xs)) : H' b = some (.tup xs) := by
  obtain ⟨cells, hl, hc⟩ := D.hl
  exact f b _ (ne_of h D.hp (by intro q; cases q)) (ne_of h hl (by intro q; cases q)) h
def sp_l_deck (K : PySem.W.Frag) : Sp := fun vs H Q _ => ∃ (a : Addr) (ns : List Int), vs = [.ref a] ∧ SqL K H a (ns.map V.int) ∧ ns.length ≤ 63 ∧ ∀ H' p l, Same H H' → Deck H' p l 0 → Q (.ref p) H'
def sp_l_draw (K : PySem.W.Frag) : Sp := fun vs H Q _ => ∃ (p l : Addr) (n m : Int), vs = [.ref p, .int m] ∧ Deck H p l n ∧ 0 ≤ n ∧ n ≤ 1000000 ∧ 0 < m ∧ m ≤ 1000000000000000000000000000000000000000000000000000000000000 ∧
  ∀ r H', 0 ≤ r → r < m → Fr p l H H' → Deck H' p l (n + 1) → Q (.int r) H'
def sp_l_one (K : PySem.W.Frag) : Sp := fun vs H Q _ => ∃ (p l b : Addr) (n : Int) (xs : List V), vs = [.ref p, .ref b] ∧ Deck H p l n ∧ 0 ≤ n ∧ n ≤ 1000000 ∧ H b = some (.lst xs) ∧ b ≠ p ∧ b ≠ l ∧ 0 < xs.length ∧ xs.length ≤ 1000 ∧
  ∀ x H', x ∈ xs → Fr p l H H' → Deck H' p l (n + 1) → Q x H'
theorem cut63 {ns : List Int} (h : ns.length ≤ 63) : cutV (ns.map V.int) none (some 63) = ns.map V.int := by
  unfold cutV
  rw [HT.sIx_none, show HT.sIx (ns.map V.int).length (ns.map V.int).length (some 63) = min 63 (ns.map V.int).length from HT.sIx_nat _ _ 63]
  rw [List.length_map, Nat.min_eq_right h, List.drop_zero]
  exact List.take_of_length_le (by rw [List.length_map]; omega)
def absI (n : Int) : Int := if n < 0 then -n else n
theorem absI_pos (n : Int) : 0 ≤ absI n := by
  unfold absI
  split <;> omega
theorem div_draw {c m : Int} (h0 : 0 < m) (h : m ≤ 1000000000000000000000000000000000000000000000000000000000000) : CDivW c m :=
  wide_div (b := 300) h0 (by omega) (by decide) (by decide)
theorem cut_all {xs : List V} {n : Nat} : cutV xs none (some (n : Int)) = xs.take n := by
  unfold cutV
  rw [HT.sIx_none, HT.sIx_nat, List.drop_zero, Nat.sub_zero]
  rcases Nat.le_total n xs.length with h | h
  · rw [Nat.min_eq_left h]
  · rw [Nat.min_eq_right h, List.take_length, List.take_of_length_le h]
theorem ne_new {H : Hp} {p b : Addr} {o : HO} (h : H p = some o) (n : H b = none) : b ≠ p := (ne_of_none h n).symm
/-- what the deck's second list is not -/
theorem Deck.lne {H : Hp} {p l b : Addr} {n : Int} (D : Deck H p l n) (h : H b = none) : b ≠ p ∧ b ≠ l := by
  obtain ⟨cells, hl, hc⟩ := D.hl
  exact ⟨ne_new D.hp h, ne_new hl h⟩
section
variable {X : Cx}
/-- repr of an int or None -/
theorem call_repr_some : CallR X (.builtin "repr") (fun xs H Q => (∃ i, xs = [.int i] ∧ i.natAbs.log2 < 1920 ∧ Q (.str (toString i)) H) ∨ (xs = [.non] ∧ Q (.str "None") H)) := by
  intro pins s σ H xs us Q I r h
  rcases h with ⟨i, rfl, hz, q⟩ | ⟨rfl, q⟩
  · obtain ⟨u, rfl, t, rfl⟩ := vals1 r
    exact PySem.P.repr_of_int hz ⟨.str _, H, I.tok _, ⟨_, rfl⟩, q⟩
  · obtain ⟨u, rfl, rfl⟩ := vals1 r
    exact PySem.P.repr_of_none ⟨.str _, H, I.tok _, ⟨_, rfl⟩, q⟩
def dataI (ns : List Int) : PyData := .list (ns.map PyData.int)
theorem dp_ints {K : PySem.W.Frag} {H : Hp} : ∀ ns : List Int, DpAll K H (ns.map V.int) (ns.map PyData.int)
  | [] => .nil
  | n :: ns => .cons (.int n) (dp_ints ns)
theorem showable_ints : ∀ {ns : List Int}, (∀ n ∈ ns, n.natAbs.log2 < 1920) → PyData.showableAll (ns.map PyData.int) = true
  | [], _ => rfl
  | n :: ns, h => by
    have a := h n (List.mem_cons_self ..)
    have b := showable_ints (ns := ns) fun m hm => h m (List.mem_cons_of_mem _ hm)
    simp only [List.map_cons, PyData.showableAll, PyData.showable, decide_eq_true a, b, Bool.and_self]
theorem hasDict_ints : ∀ ns : List Int, PyData.hasDictAll (ns.map PyData.int) = false
  | [] => rfl
  | n :: ns => by
    simp only [List.map_cons, PyData.hasDictAll, PyData.hasDict, hasDict_ints ns, Bool.or_self]
theorem depth_ints : ∀ ns : List Int, PyData.depthAll (ns.map PyData.int) ≤ 1
  | [] => by simp [PyData.depthAll]
  | n :: ns => by
    have := depth_ints ns
    simp only [List.map_cons, PyData.depthAll, PyData.depth]
    omega
theorem shown_ints : ∀ {ns : List Int}, (∀ n ∈ ns, n.natAbs.log2 < 1920) → ((PyData.shownAll (ns.map PyData.int)).map (·.length)).sum ≤ 1921 * ns.length ∧ (PyData.shownAll (ns.map PyData.int)).length = ns.length
  | [], _ => by simp [PyData.shownAll]
  | n :: ns, h => by
    have a := PyProof.Rows.int_text_len_1921 (h n (List.mem_cons_self ..))
    obtain ⟨b, c⟩ := shown_ints (ns := ns) fun m hm => h m (List.mem_cons_of_mem _ hm)
    simp only [List.map_cons, PyData.shownAll, PyData.shown, List.sum_cons, List.length_cons]
    omega
/-- repr of a list of ints -/
theorem call_repr_ints (gu : X.A.guards = some []) (room : ∃ k, Room k X.A) : CallR X (.builtin "repr") (fun xs H Q => ∃ a ns, xs = [.ref a] ∧ SqL X.K H a (ns.map V.int) ∧ ns.length ≤ 5000 ∧ (∀ n ∈ ns, n.natAbs.log2 < 1920) ∧ Q (.str (dataI ns).shown) H) := by
  intro pins s σ H xs us Q I r h
  obtain ⟨a, ns, rfl, hS, len, small, q⟩ := h
  refine call_repr_data gu room pins s σ H _ us Q I r ⟨a, dataI ns, rfl, .lst hS (dp_ints ns), ?_, ?_, ?_, ?_, q⟩
  · unfold dataI
    simp only [PyData.showable, showable_ints small]
  · unfold dataI
    simp only [PyData.hasDict, hasDict_ints]
  · have := depth_ints ns
    unfold dataI
    simp only [PyData.depth]
    omega
  · obtain ⟨s1, s2⟩ := shown_ints small
    have := listText_len_le (PyData.shownAll (ns.map PyData.int))
    unfold dataI
    simp only [PyData.shown]
    rw [sizeLine_eq]
    omega
end
end Sm

set_option Elab.async false
set_option linter.all false
set_option maxRecDepth 100000
set_option maxHeartbeats 4000000
namespace Sm
open PySem PySem.Spec PyProof.Rows L2
/-! ### max of a tuple of ints -/
section
variable {prog : Program} {w : World} {A : Around} {E : Value → Shared → Prop} {s : Shared} {l : Addr} {its : List Value} {ns : List Int} {Q : Value → Shared → Prop}
theorem iter_intTup {xs : Array (Int × Tok)} (hl : s.heap.IsTuple l (intItems xs))
    (h : ∀ s₂ : Shared, s₂ = { s with heap := s.heap.push { cls := .type "tuple_iterator", data := .fields #[.ref l, .int 0 0] } } →
      (s₂.heap.IsTupleIter s.heap.objs.size l 0 ∧ s₂.heap.IsTuple l (intItems xs)) → (∀ b ∈ [s.heap.objs.size, l], b < s₂.heap.objs.size) → l ≠ s.heap.objs.size → Q (.ref s.heap.objs.size) s₂) :
    wpAny (model prog w) A (pyIter (.ref l)) Q E s := by
  have hlt : l < s.heap.objs.size := by obtain ⟨_, e, _⟩ := hl; exact Heap.lt_size e
  refine wpAny_pyIter_tuple hl (h _ rfl ⟨⟨_, Heap.get?_push_size _ rfl, rfl, rfl⟩, hl.push _⟩ (fun b hb => ?_) (Nat.ne_of_lt hlt))
  show b < (s.heap.push _).objs.size
  rw [Heap.size_push]
  rcases List.mem_cons.mp hb with rfl | hb
  · exact Nat.lt_succ_self _
  · rcases List.mem_cons.mp hb with rfl | hb
    · exact Nat.lt_succ_of_lt hlt
    · cases hb
theorem old_keptT {h' : Heap} (hk : ∀ b o, b ∉ [s.heap.objs.size] → (s.heap.push { cls := .type "tuple_iterator", data := .fields #[.ref l, .int 0 0] }).get? b = some o → h'.get? b = some o) :
    ∀ b o, s.heap.get? b = some o → h'.get? b = some o := fun b o e => by
  refine hk b o (fun hm => ?_) (Heap.get?_push_of_some _ e)
  rcases List.mem_cons.mp hm with e1 | hm
  · exact absurd (e1 ▸ Heap.lt_size e) (Nat.lt_irrefl _)
  · cases hm
theorem max_intTup {xs : Array (Int × Tok)} (hh : A.handled = none) (hl : s.heap.IsTuple l (intItems xs)) (hne : 0 < xs.size)
    (h : ∀ v h' tk, (intItems xs)[argBest (fun i j => decide (numAt xs i > numAt xs j)) (xs.size - 1)]? = some v → (∀ b o, s.heap.get? b = some o → h'.get? b = some o) → Q v { s with heap := h', toks := tk }) :
    wpAny (model prog w) A (call (.builtin "max") [.ref l]) Q E s := by
  have hlt : l < s.heap.objs.size := by obtain ⟨_, e, _⟩ := hl; exact Heap.lt_size e
  refine call_max_walk (iter_intTup hl fun s₂ e st hfp hlI => ?_)
  subst e
  refine ⟨_, _, _, _, _, _, _, rfl, Walks.tuple (A := A.in1) hh _ l hlI (intItems xs), st, hfp, by simpa [intItems] using hne, CmpOf.ints_gt (numAt xs) (fun _ _ => intItems_at), fun v h' tk hP hk => ?_⟩
  exact h v h' tk (by simpa [intItems] using hP) (old_keptT hk)
theorem max_rawT (hh : A.handled = none) (hl : s.heap.IsTuple l its.toArray) (hi : IntsAre its ns) (hne : 0 < ns.length)
    (h : ∀ h' tk M t', (∀ b o, s.heap.get? b = some o → h'.get? b = some o) → M ∈ ns → (∀ a, a ∈ ns → a ≤ M) → Q (.int M t') { s with heap := h', toks := tk }) : wpAny (model prog w) A (call (.builtin "max") [.ref l]) Q E s := by
  obtain ⟨xs, e⟩ := hi.allInts.items
  have hn : numsOf (intItems xs).toList = ns := by rw [← e]; exact hi.numsOf
  rw [nums_intItems] at hn
  subst hn
  rw [e] at hl
  have hsz : 0 < xs.size := by simpa using hne
  refine max_intTup hh hl hsz fun v h' tk hv hk => ?_
  obtain ⟨t, rfl⟩ := intItems_at hv
  obtain ⟨h1, h2⟩ := argBest_gt (numAt xs) (xs.size - 1)
  refine h h' tk _ t hk ?_ fun a ha => ?_
  · rw [numAt_eq]; exact PySem.getD_mem (by rw [List.length_map, Array.length_toList]; omega)
  · obtain ⟨j, hj, rfl⟩ := mem_getD ha
    rw [List.length_map, Array.length_toList] at hj
    rw [← numAt_eq]; exact h2 j (by omega)
end
section
variable {X : Cx}
def rMaxT (K : PySem.W.Frag) : List V → Hp → VK → Prop := fun vs H Q => ∃ (a : Addr) (ns : List Int), vs = [V.ref a] ∧ SqT K H a (ns.map V.int) ∧ 0 < ns.length ∧ ∀ m, m ∈ ns → (∀ y, y ∈ ns → y ≤ m) → Q (.int m) H
theorem cr_maxT (hc : X.calm = true) : CallR X (.builtin "max") (rMaxT X.K) := by
  intro pins s σ H vs us Q I r h
  obtain ⟨a, ns, rfl, hs, hne, q⟩ := h
  obtain ⟨its, rv, hl, _⟩ := I.tuple hs
  rw [Vals.ref1 r]
  exact max_rawT (I.ok.hd hc) hl (rv.ints) hne fun h' tk m t' hk h1 h2 => ⟨.int _, H, I.kept hk, ⟨_, rfl⟩, q m h1 h2⟩
end
theorem walk_zipT {K : PySem.W.Frag} {a b : Addr} {xs ys : List V} {n : Nat} (h1 : xs.length = n) (h2 : ys.length = n) : Walk (RZ.ItzT K a b) n (fun H => SqT K H a xs ∧ SqT K H b ys) (YPair (fun i => xs[i]?) (fun i => ys[i]?)) := by
  refine ⟨fun i _ hi q => ?_, fun _ q => ⟨xs, ys, q.1, q.2, by omega⟩, fun i H v H' _ q y => ?_⟩
  · have h1 : i < xs.length := by omega
    have h2 : i < ys.length := by omega
    exact ⟨xs, ys, xs[i], ys[i], q.1, q.2, by simp [h1], by simp [h2]⟩
  · obtain ⟨T, x, z, h1, h2, h3, h4, h5⟩ := y
    exact ⟨T, x, z, h1, h2, h3, h4 xs q.1, h5 ys q.2⟩
end Sm

set_option Elab.async false
set_option linter.all false
set_option maxRecDepth 100000
set_option maxHeartbeats 4000000
namespace Sm
open PySem PySem.Spec PyProof.Rows L2
/-- isinstance of the exception that the suite holds, with its dict: one class, or a tuple of classes just laid -/
def rIsX (K : PySem.W.Frag) (cls : Value) (d : Option Addr) (a : Addr) : List V → Hp → VK → Prop := fun xs H Q => ∃ (D dd : Addr) (fs : List (Str × V)), cls = .ref D ∧ d = some dd ∧ H dd = some (.xd fs) ∧ ExcC K D ∧
  ((∃ (c : V) (cv : Value) (b : Bool), xs = [.ref a, c] ∧ ClsV c cv ∧ PySem.W.kitOne K (.ref D) cv = some b ∧ Q (.bl b) H) ∨
   ∃ (tp : Addr) (cs : List V) (us : List Value) (b : Bool), xs = [.ref a, .ref tp] ∧ H tp = some (.tup cs) ∧ Paired ClsV cs us ∧ PySem.W.kitAny K (.ref D) us = some b ∧ Q (.bl b) H)
theorem call_isX {X : Cx} {a : Addr} {cls : Value} {d : Option Addr} {oe : Obj} {pn : List (Addr × Obj)} (hz : Zc cls d oe) (hf : ∃ vs, oe.data = .fields vs) : CallR (X.suite a ((a, oe) :: pn)) (.builtin "isinstance") (rIsX X.K cls d a) := by
  intro pins s σ H xs us Q I r h
  obtain ⟨D, dd, fs, rfl, rfl, ea, C, h⟩ := h
  obtain ⟨ha, _⟩ := I.pin (a, oe) (List.mem_append_left _ List.mem_cons_self)
  obtain ⟨vs, hd⟩ := hf
  have hx : ObjOk X.prog X.w H s.heap dd (.xd fs) := I.hok dd _ ea
  obtain ⟨mA, hns, hr⟩ := hx
  obtain ⟨od, ho, hl⟩ := lookIn_ns hns
  have J : PySem.W.InstAt s.heap a oe D (some od) := ⟨ha, hz.1, by unfold PySem.W.notCls; rw [hd] <;> rfl, by rw [hz.2]; exact ho⟩
  obtain ⟨cd, hc, _⟩ := PySem.W.any_some C.hd
  have Z := PySem.W.kitx_exc (x := a) (ox := oe) (od := some od) (by rw [hc]; rfl) C.hg C.hk C.hs C.ha C.hn C.ht C.hm
  rcases h with ⟨c, cv, b, rfl, k, e, q⟩ | ⟨tp, cs, ws, b, rfl, hT, k, e, q⟩
  · obtain ⟨u1, u2, rfl, r1, r2⟩ := vals2 r
    cases (show u1 = Value.ref a from r1)
    cases k.eq r2
    exact PySem.W.kia_one Z I.kIn J e (fun z => nomatch z) fun tk => ⟨.bl b, H, I.kept (t' := tk) fun _ _ z => z, rfl, q⟩
  · obtain ⟨u1, u2, rfl, r1, r2⟩ := vals2 r
    cases (show u1 = Value.ref a from r1)
    cases (show u2 = Value.ref tp from r2)
    obtain ⟨_, its, rv, o, h1, h2, n, h3⟩ := (show ObjOk X.prog X.w H s.heap tp (.tup cs) from I.hok tp _ hT)
    have e3 := ClsV.all k rv
    subst e3
    obtain ⟨oc, od', dt, sl⟩ := o
    simp only at h2 h3
    subst h2 h3
    exact PySem.W.kia_tup Z I.kIn J h1 e (fun z => nomatch z) fun tk => ⟨.bl b, H, I.kept (t' := tk) fun _ _ z => z, rfl, q⟩
theorem kit_own {K : PySem.W.Frag} {D C : Addr} {b : Bool} (h1 : PySem.W.isClsIn K C = true) (h2 : PySem.W.typeIn K (.ref C) = some (.type "type")) (h3 : PySem.W.subIn K (.ref D) (.ref C) = some b) (h4 : PySem.W.subIn K (.ref D) (.ref D) = some true) : PySem.W.kitOne K (.ref D) (.ref C) = some b := by
  unfold PySem.W.kitOne
  by_cases e : D = C
  · subst e
    rw [h4] at h3
    rw [if_pos (beq_self_eq_true _)]
    exact h3
  · rw [if_neg (fun q => e (Value.ref.inj (beq_iff_eq.mp q)))]
    have h1' : (PySem.W.clsIn K C).isSome = true := h1
    have z : ((PySem.W.clsIn K C).isSome && PySem.W.typeIn K (.ref C) == some (.type "type")) = true := by rw [h1', h2] <;> rfl
    show (if ((PySem.W.clsIn K C).isSome && PySem.W.typeIn K (.ref C) == some (.type "type")) = true then PySem.W.subIn K (.ref D) (.ref C) else none) = some b
    rw [if_pos z]
    exact h3
theorem kit_valerr {K : PySem.W.Frag} {D : Addr} {b : Bool} (h : PySem.W.subIn K (.ref D) (.type "ValueError") = some b) : PySem.W.kitOne K (.ref D) (.type "ValueError") = some b := by
  have q : ((Value.ref D) == (Value.type "ValueError")) = false := beq_eq_false_iff_ne.mpr fun z => nomatch z
  unfold PySem.W.kitOne
  rw [if_neg (by rw [q]; exact Bool.false_ne_true)]
  show (if PySem.W.kitMeta "ValueError" = true then PySem.W.subIn K (.ref D) (.type "ValueError") else none) = some b
  rw [if_pos (by decide +kernel)]
  exact h
theorem kit_cons_false {K : PySem.W.Frag} {t c : Value} {cs : List Value} {b : Bool} (h : PySem.W.kitOne K t c = some false) (hr : PySem.W.kitAny K t cs = some b) : PySem.W.kitAny K t (c :: cs) = some b := by
  unfold PySem.W.kitAny
  rw [h]
  exact hr
/-- an own exception class with one field, made by its own __init__ -/
structure XcTxt (K : PySem.W.Frag) (mg : Str → Option Value) (nm fl : Str) (C fI : Addr) : Prop where
  g : mg nm = some (.ref C)
  oex : OexC K C
  no : PySem.W.findIn K (.ref C) fl = some none
  iC : PySem.W.findIn K (.ref C) "__init__" = some (some (.ref fI))
  tI : PySem.W.typeIn K (.ref fI) = some (.type "function")
  xf : XfC K C
  ec : ExcC K C
/-- C(e), told plainly: the new exception's dict holds the field -/
def tMkF (C : Addr) (fl : Str) (ta : TA) : L2.St → Hp → XK → Prop := fun σ H Q => ta σ H fun vs H1 => ∃ v, vs = [v] ∧ ∀ d, H1 d = none → Q (.ref C) (some d) (upd H1 d (.xd [(fl, v)]))
def sp_init (K : PySem.W.Frag) (fl : Str) : Sp := fun vs H Q _ => ∃ (a C : Addr) (v : V), vs = [.ref a, v] ∧ OexC K C ∧ PySem.W.findIn K (.ref C) fl = some none ∧ H a = some (exo a C none) ∧ ∀ dx, H dx = none → dx ≠ a → Q .non (upd (upd H dx (exd dx [(fl, v)])) a (exo a C (some dx)))
theorem xc_mk {C : Addr} {fl : Str} {K : PySem.W.Frag} {ta : TA} {σ : L2.St} {H : Hp} {Q : XK} (T : OexC K C) (no : PySem.W.findIn K (.ref C) fl = some none)
    (h : ta σ H fun vs H1 => ∃ v, vs = [v] ∧ ∀ d H2, Same H1 H2 → H2 d = some (.xd [(fl, v)]) → Q (.ref C) (some d) H2) (mono : ∀ {A B : List V → Hp → Prop}, (∀ vs H1, A vs H1 → B vs H1) → ta σ H A → ta σ H B) : tMkO C (sp_init K fl) [] ta σ H Q := by
  refine mono ?_ h
  rintro vs H1 ⟨v, rfl, k⟩
  refine ⟨by show 1 ≤ 1000; decide, fun a na => ⟨a, C, v, rfl, T, no, upd_same, fun dx nd da => ⟨rfl, dx, [(fl, v)], upd_same, ?_, ?_, ?_⟩⟩⟩
  · rw [upd_ne da, upd_same]
  · rw [upd_ne da] at nd
    exact nd
  · have nd1 : H1 dx = none := by
      rw [upd_ne da] at nd
      exact nd
    refine k dx _ (fun b o hb => ?_) upd_same
    rw [upd_ne (ne_of_none hb nd1), del_ne (ne_of_none hb na), upd_ne (ne_of_none hb na), upd_ne (ne_of_none hb nd1), upd_ne (ne_of_none hb na)]
    exact hb
end Sm

set_option Elab.async false
set_option linter.all false
set_option maxRecDepth 100000
set_option maxHeartbeats 4000000
namespace Sm
open PySem PySem.Spec PyProof.Rows L2
/-! ### own exception classes over LookupError, whose __init__ stores one field -/
abbrev luTail : List Value := [.type "LookupError", .type "Exception", .type "BaseException", .type "object"]
/-- what the written part says of such a class -/
structure OexL (K : PySem.W.Frag) (C : Addr) : Prop where
  obj : ∃ nm q N bs bm sn sub ab col dd k0 k1 k2 k3 k5, K.lookup C = some (excClassObj nm q C N bs bm true sn sub ab col dd k0 k1 k2 k3 k5 "LookupError.__new__") ∧ PySem.W.excTail luTail bm = true
  facts : PySem.W.findIn K (.ref C) "__setattr__" = some (some (.builtin "object.__setattr__")) ∧ PySem.W.subIn K (.ref C) (.type "BaseException") = some true ∧ PySem.W.typeIn K (.ref C) = some (.type "type") ∧ PySem.W.keepIn K (.ref C) = true
section
open Builtin Builtin.ObjectAttr
variable {prog : Program} {w : World} {A : Around} {hp : Heap} {g : Array GenState} {dw : Drawn} {t : Nat} {os : OsState} {R : Result → Shared → Prop}
/-- object.__setattr__(x, name, v), x an exception without a dict whose class stands over a built-in one -/
theorem lu_store {K : PySem.W.Frag} {B : String} {bmB : List Value} {name : Str} {tk : Tok} {v : Value} {x C : Addr} {fv : Array Value} {cd : ClassData} (SF : StoreFacts B bmB "object.__setattr__" "object")
    (kin : K.In hp) (there : hp.get? x = some { cls := .ref C, data := .fields fv }) (known : PySem.W.clsIn K C = some cd) (over : PySem.W.excOver K C bmB = true) (dict : cd.hasDict = true) (no : PySem.W.findIn K (.ref C) name = some none)
    (told : ∀ h' tk' dx, (∀ b o, b ≠ x → hp.get? b = some o → h'.get? b = some o) → hp.objs.size ≤ dx → dx ≠ x → h'.get? x = some { cls := .ref C, dict := some dx, data := .fields fv } → h'.Ns1 dx (fun y => if y = name then some v else none) → R (.ok (.ret .none)) ⟨h', g, dw, tk', os⟩) :
    codeAny (model prog w) A (.call (.builtin "object.__setattr__") ⟨[.ref x, .str name tk, v], []⟩) R ⟨hp, g, dw, t, os⟩ := by
  have at_ : PySem.W.InstAt hp x { cls := .ref C, data := .fields fv } C none := ⟨there, rfl, rfl, trivial⟩
  have taker : PySem.W.takerIn K C name = some none := by unfold PySem.W.takerIn; rw [no]; rfl
  refine PySem.W.osa_openX (s := ⟨hp, g, dw, t, os⟩) SF kin at_ over taker fun b => ?_
  have apart : x ≠ hp.objs.size := Nat.ne_of_lt (Heap.lt_size there)
  have kls : PySem.W.Looks (model prog w) hp (classData C) cd := PySem.W.looks_clsIn kin known
  show wpAny _ _ (storeInOwnDict (.ref x) (.ref C) (.str name tk) name v b) _ _ _
  obtain ⟨n1, n2, n3, n4, n5, hd, n6, n7, n8, n9, n10⟩ := cd
  dsimp only at dict
  subst dict
  unfold storeInOwnDict ownDictForStores
  repeat (first | with_reducible refine PySem.HandSPX.store_in_new ?_ ?_ | with_reducible refine wpAny_loadPart_at there ?_ | with_reducible refine kls.at ?_ | wp_step)
  · exact ⟨_, #[], _, (Heap.get?_update_ne _ _ _ _ apart.symm).trans (Heap.get?_push_at rfl rfl), rfl, fun e he => absurd he (by simp), fun _ => rfl⟩
  · intro h' tk' names same
    have on : (hp.push { cls := .type "dict", data := .dict #[] }).get? x = some { cls := .ref C, data := .fields fv } := Heap.get?_push_of_some _ there
    refine told h' tk' hp.objs.size (fun b o hb ho => (same.2 b (Nat.ne_of_lt (Heap.lt_size ho))).trans ((Heap.get?_update_ne _ _ _ _ hb).trans (Heap.get?_push_of_some _ ho))) (Nat.le_refl _) apart.symm ((same.2 x apart).trans (Heap.get?_update_self _ on rfl)) names
end
/-- the abstract heap once the first field of the exception at a stands in its new dict at dx -/
theorem lu_un {fs : List Addr} {H : Hp} {hp h' : Heap} {a C dx : Addr} {f : Str} {y : V} (ea : H a = some (exo a C none)) (dn : hp.objs.size ≤ dx) (nd : H dx = none) (there : ∃ o, h'.get? a = some o)
    (keep : ∀ b o, b ≠ a → hp.get? b = some o → h'.get? b = some o) : Un fs [] H (upd (upd H dx (exd dx [(f, y)])) a (exo a C (some dx))) hp h' := by
  have other : ∀ {b : Addr}, H b = none → b ≠ a := fun {b} n z => by rw [z, ea] at n; cases n
  have young : ∀ {b : Addr} {o : Obj}, hp.get? b = some o → b ≠ dx := fun {b o} q => Nat.ne_of_lt (Nat.lt_of_lt_of_le (Heap.lt_size q) dn)
  constructor
  · intro b o q n _ _
    exact keep b o (other n) q
  · intro b o q n _ _
    exact ⟨o.slots, keep b o (other n) q⟩
  · intro b o q n _
    rw [upd_ne (other n), upd_ne (young q)]
    exact n
  · intro b o q _
    by_cases hb : b = a
    · subst hb; exact there
    · exact ⟨o, keep b o hb q⟩
  · intro b xs q
    rw [upd_ne (at_ne ea q exo_tup), upd_ne (ne_of_none q nd)]; exact q
  · intro b o v q
    rw [upd_ne (at_ne ea q exo_frz), upd_ne (ne_of_none q nd)]; exact q
  · intro b ps q
    exact ⟨#[], by rw [upd_ne (at_ne ea q exo_tbl), upd_ne (ne_of_none q nd), q]; simp⟩
section
variable {X : Cx} {pins : List (Addr × Obj)} {σ : L2.St} {H : Hp} {s : Shared} {a C : Addr} {f : Str} {y : V} {u : Value} {Q : Unit → Shared → Prop} {E : Value → Shared → Prop} {A : Around}
theorem lu_cls {K : PySem.W.Frag} {C : Addr} (T : OexL K C) : ∃ cd, PySem.W.clsIn K C = some cd ∧ cd.hasDict = true ∧ PySem.W.excOver K C luTail = true := by
  obtain ⟨nm, q, N, bs, bm, sn, sub, ab, col, dd, k0, k1, k2, k3, k5, hC, hbm⟩ := T.obj
  have known : PySem.W.clsIn K C = some { name := nm, bases := bs, mro := .ref C :: bm, ns := N, qualname := q, hasDict := true, slotNames := sn, subclasses := sub, abstract := ab, collection := col, hasDel := false } := by unfold PySem.W.clsIn; rw [hC] <;> rfl
  refine ⟨_, known, rfl, ?_⟩
  unfold PySem.W.excOver
  rw [known]
  show (C == C && PySem.W.excTail luTail bm) = true
  rw [hbm, beq_self_eq_true]
  rfl
/-- self.f = y in __init__ -/
theorem lu_ost (T : OexL X.K C) (I : Inv X pins σ H s) (e : H a = some (exo a C none)) (no : PySem.W.findIn X.K (.ref C) f = some none) (ry : RelV y u)
    (h : ∀ dx s', H dx = none → dx ≠ a → Inv X pins σ (upd (upd H dx (exd dx [(f, y)])) a (exo a C (some dx))) s' → Q () s') : wpAny (model X.prog X.w) A (setAttr (.ref a) f u) Q E s := by
  obtain ⟨cd, known, dict, over⟩ := lu_cls T
  obtain ⟨t1, ho⟩ := exo_at I.hok e
  obtain ⟨hp, g, d, t, os⟩ := s
  refine PySem.W.set_plain I.kIn (od := none) ⟨ho, rfl, rfl, trivial⟩ T.facts.1 (lu_store PySem.F.store_LookupError I.kIn ho known over dict no fun h' tk' dx k dn dne hx hn => ?_)
  have nd : H dx = none := I.hok.fresh dn
  refine h dx _ nd dne (I.un (t' := tk') (lu_un e dn nd ⟨_, hx⟩ k) fun b o q => ?_)
  by_cases hb : b = a
  · subst hb
    rw [upd_same] at q; cases q
    exact exo_ok hx
  rw [upd_ne hb] at q
  by_cases hd : b = dx
  · subst hd
    rw [upd_same] at q; cases q
    exact exd_ok hn (relO_put (fs := []) ry fun g => True.intro)
  rw [upd_ne hd] at q
  refine (I.hok b o q).stay (fun c v hc z => k c v ?_ z) (fun c hc => ?_) (fun c xs hc => ?_)
  · rcases hc with hc | hc
    · rw [hc]; exact hb
    · exact at_ne e hc exo_own
  · rw [upd_ne (at_ne e hc exo_own), upd_ne (ne_of_none hc nd)]; exact hc
  · rw [upd_ne (at_ne e hc exo_tup), upd_ne (ne_of_none hc nd)]; exact hc
end
/-- self.f = e -/
def tOsL (K : PySem.W.Frag) (f : Str) (to te : TE) : TS := fun D σ H => te σ H fun y H1 => to σ H1 fun x H2 => ∃ a C : Addr, x = .ref a ∧ OexL K C ∧ PySem.W.findIn K (.ref C) f = some none ∧ H2 a = some (exo a C none) ∧ ∀ dx, H2 dx = none → dx ≠ a → D.nx σ (upd (upd H2 dx (exd dx [(f, y)])) a (exo a C (some dx)))
section
variable {X : Cx} {o e : Expr} {es : List Expr} {to te : TE} {ta : TA} {f : Str} {p p' pos : Pos}
theorem ps_osL (ho : PE X o to) (he : PE X e te) (hs : swapsWith e (some (.Attribute o f p')) pos.line X.env = pure false := by rfl) : PS X (.Assign [.Attribute o f p'] e pos) (tOsL X.K f to te) := by
  refine ⟨fun pins s σ H D I h => plainObj_wpAny_Assign_Attribute (thn (he.run pins s σ H _ I h) ?_) hs⟩
  rintro v s1 ⟨y, H1, I1, r1, q1⟩
  refine thn (ho.run pins s1 σ H1 _ I1 q1) ?_
  rintro u s2 ⟨x, H2, I2, r2, a, C, rfl, T, no, ea, q⟩
  obtain rfl : u = Value.ref a := r2
  exact lu_ost T I2 ea no r1 fun dx s' n ne J => ⟨σ, _, J, q dx n ne⟩
/-- C(e) -/
theorem pmk_oexL {CX : CXT} {x : Str} {C fI : Addr} {k : Nat} {fd : FuncData} {ps : List Str} {sp : Sp} (T : OexL X.K C) (iC : PySem.W.findIn X.K (.ref C) "__init__" = some (some (.ref fI))) (tI : PySem.W.typeIn X.K (.ref fI) = some (.type "function"))
    (F1 : FnOk X.prog X.w X.K X.mg X.base CX k fI fd ps sp) (hr : Room (k + 1) X.A) (hb : Binds X.K fd ps []) (hx : Passes CX X (fun _ _ _ => False)) (hg : Gl X x) (hm : X.mg x = some (.ref C)) (ha : PA X (e :: es) ta)
    (hdb : (x == ("__debug__" : Str)) = false := by decide) (he : starEach (e :: es) X.env = (false, eval e X.env) :: starEach es X.env := by rfl) (hpl : (backTo pos (starEach es X.env)).any (·.1) = false := by rfl) :
    PMk X (.Call (.Name x p) (e :: es) [] pos) (tMkO C sp [] ta) := by
  intro pins s σ H Q I h
  obtain ⟨nm, q, N, bs, bm, sn, sub, ab, col, dd, k0, k1, k2, k3, k5, hC, hbm⟩ := T.obj
  obtain ⟨_, exc, typ, keep⟩ := T.facts
  refine wpAny_Call_Name_kw (ld_glob I hg hm (PySem.W.callWith_K (h₀ := X.base) I.ok.mod.kin keep (thn (ha.run pos pins s σ H _ I h) ?_) he hpl) hdb)
  rintro us s1 ⟨vs, H1, I1, r1, hz, q1⟩
  refine ⟨I1.kIn, ?_⟩
  show wpAny _ _ (call (.ref C) us) _ _ _
  obtain ⟨hp, g, dr, tk, os⟩ := s1
  generalize hn : hp.objs.size = n
  have old : hp.objs.size ≤ n + 1 := by omega
  have hq := q1 (n + 1) (I1.hok.fresh old)
  have kk : ∀ b o, hp.get? b = some o → ((hp.push (PySem.W.kdv_tup us)).push (PySem.HandSPX.excO C n)).get? b = some o := fun b o e => Heap.get?_push_of_some _ (Heap.get?_push_of_some _ e)
  have got : ((hp.push (PySem.W.kdv_tup us)).push (PySem.HandSPX.excO C n)).get? (n + 1) = some (PySem.HandSPX.excO C n) := by subst hn; heap_get
  have I2 : Inv X pins σ (upd H1 (n + 1) (exo (n + 1) C none)) ⟨(hp.push (PySem.W.kdv_tup us)).push (PySem.HandSPX.excO C n), g, dr, tk, os⟩ := I1.laid (t' := tk) (o := exo (n + 1) C none) kk old (exo_ok got)
  have r2 : Vals (V.ref (n + 1) :: (vs ++ [])) (Value.ref (n + 1) :: us) := .cons rfl (by rw [List.append_nil]; exact r1)
  have long : (Value.ref (n + 1) :: us).length = ps.length := r2.length.symm.trans (F1.len _ _ _ _ hq)
  have few : us.length ≤ sizeLine := by rw [← Paired.length r1, sizeLine_eq]; omega
  have ran := F1.run _ X.stack _ _ ⟨Value.ref (n + 1) :: us, []⟩ (Value.ref (n + 1) :: us) _ _ (fun _ _ _ => False) (hr.make C us []) (I2.env0.make C us []) (by have b := hb ⟨(hp.push (PySem.W.kdv_tup us)).push (PySem.HandSPX.excO C n), g, dr, tk, os⟩ (Value.ref (n + 1) :: us) I2.kIn (by rw [List.append_nil]; exact long); rw [List.append_nil] at b; exact b) r2 hq
  subst hn
  refine wpAny_call (PySem.HandSPX.call_own PySem.F.excBase_LookupError (fun Y => PySem.W.excTail_contains Y bm hbm) (I1.kIn _ _ hC) (PySem.W.looks_findIn I1.kIn iC) (fun self => PySem.W.bind_fn I1.kIn self tI) few (codeAny_mono ran ?_))
  rintro (er | fl) s' hq'
  · exact hx pins σ _ _ er s' I2 hq'
  match fl, hq' with
  | .next, z => exact False.elim z
  | .brk, z => exact False.elim z
  | .cont, z => exact False.elim z
  | .ret u, ⟨v, H2, os2, bare2, un2, hok2, rv, ev, d, fs, ea, ed, hd1, q2⟩ =>
    subst ev
    obtain ⟨h2, g2, d2, t2, os'⟩ := s'
    exact ⟨rv, mk_end (raises_own exc typ) I1 old kk un2 hok2 os2 bare2 ea ed hd1 q2⟩
end
/-- __init__(self, f): self.f = f -/
def sp_initL (K : PySem.W.Frag) (fl : Str) : Sp := fun vs H Q _ => ∃ (a C : Addr) (v : V), vs = [.ref a, v] ∧ OexL K C ∧ PySem.W.findIn K (.ref C) fl = some none ∧ H a = some (exo a C none) ∧ ∀ dx, H dx = none → dx ≠ a → Q .non (upd (upd H dx (exd dx [(fl, v)])) a (exo a C (some dx)))
theorem xc_mkL {C : Addr} {fl : Str} {K : PySem.W.Frag} {ta : TA} {σ : L2.St} {H : Hp} {Q : XK} (T : OexL K C) (no : PySem.W.findIn K (.ref C) fl = some none)
    (h : ta σ H fun vs H1 => ∃ v, vs = [v] ∧ ∀ d H2, Same H1 H2 → H2 d = some (.xd [(fl, v)]) → Q (.ref C) (some d) H2) (mono : ∀ {A B : List V → Hp → Prop}, (∀ vs H1, A vs H1 → B vs H1) → ta σ H A → ta σ H B) : tMkO C (sp_initL K fl) [] ta σ H Q := by
  refine mono ?_ h
  rintro vs H1 ⟨v, rfl, k⟩
  refine ⟨by show 1 ≤ 1000; decide, fun a na => ⟨a, C, v, rfl, T, no, upd_same, fun dx nd da => ⟨rfl, dx, [(fl, v)], upd_same, ?_, ?_, ?_⟩⟩⟩
  · rw [upd_ne da, upd_same]
  · rw [upd_ne da] at nd
    exact nd
  · have nd1 : H1 dx = none := by
      rw [upd_ne da] at nd
      exact nd
    refine k dx _ (fun b o hb => ?_) upd_same
    rw [upd_ne (ne_of_none hb nd1), del_ne (ne_of_none hb na), upd_ne (ne_of_none hb na), upd_ne (ne_of_none hb nd1), upd_ne (ne_of_none hb na)]
    exact hb
theorem kit_typ {K : PySem.W.Frag} {D : Addr} {b : Bool} {n : String} (hm : PySem.W.kitMeta n = true) (h : PySem.W.subIn K (.ref D) (.type n) = some b) : PySem.W.kitOne K (.ref D) (.type n) = some b := by
  have q : ((Value.ref D) == (Value.type n)) = false := beq_eq_false_iff_ne.mpr fun z => nomatch z
  unfold PySem.W.kitOne
  rw [if_neg (by rw [q]; exact Bool.false_ne_true)]
  show (if PySem.W.kitMeta n = true then PySem.W.subIn K (.ref D) (.type n) else none) = some b
  rw [if_pos hm]
  exact h
end Sm

set_option Elab.async false
set_option linter.all false
set_option maxRecDepth 100000
set_option maxHeartbeats 4000000
namespace Sm
open PySem PySem.Spec PyProof.Rows L2 LamX
/-- told: try: return a() / except e as n: a suite that is told by ts -/
def TAs (K : PySem.W.Frag) (CS : Addr) (Ng : List Str) (i : Nat) (ts : Addr → Value → Option Addr → TS) : (XK → Hp → VK → Prop) → Hp → VK → Prop := fun tl H Q =>
  tl (fun cls d H' => ∃ b, PySem.W.exmOne K cls (.ref CS) = some b ∧ (b = true → ∀ (σ : L2.St) (c : Addr), σ.length = Ng.length → H' c = none → ts c cls d { nx := fun _ H2 => Q .non H2, rt := Q } (σ.set i (some (.ref c))) H') ∧ (b = false → False)) H Q
theorem set_read {σ : L2.St} {N : List Str} {n : Str} {i : Nat} {v : V} (h : σ.length = N.length) (hi : N[i]? = some n) : (σ.set i (some v))[i]? = some (some v) := by
  have := (List.getElem?_eq_some_iff.mp hi).1
  rw [List.getElem?_set_self (by omega)]
/-- where an exception is taken, all slots are there -/
theorem takes_len {X : Cx} {W : WX} (t : Takes X W) : Takes X (fun cls d σ H => σ.length = X.N.length → W cls d σ H) := fun u s' z => by
  obtain ⟨a, B, sI, pins, σ, H, cls, d, e, I, nb, up, sky, na, os, ag, w⟩ := z
  exact t u s' ⟨a, B, sI, pins, σ, H, cls, d, e, I, nb, up, sky, na, os, ag, w I.len⟩
section
variable {X : Cx} {Ng : List Str} {x a e n q : Str} {sg : Scope} {g CS : Addr} {cdg : Value} {i : Nat} {b₀ : Stmt} {suite : List Stmt} {p1 p2 p3 p4 p5 p6 : Pos} {ts : Addr → Value → Option Addr → TS}
/-- the def that calls what it got and holds the exception in a suite of its own -/
theorem as_gives (hge : sg.names.lookup e = some .globalImplicit) (hme : X.mg e = some (.ref CS)) (hde : (e == ("__debug__" : Str)) = false) (h0 : ∀ f : Addr, (L2.start Ng [V.ref f])[0]? = some (some (V.ref f))) (nd : Ng.Nodup) (hi : Ng[i]? = some n)
    (hln : ∀ (s : Shared) (H : Hp), (cxOf C8.CX0 X.prog X.w X.K X.mg X.base Ng x sg g cdg X.A X.stack s H C8.E0).nox.env.kindOf n = some .local)
    (hsu : ∀ (s : Shared) (H : Hp) (c : Addr) (oe : Obj) (cls : Value) (d : Option Addr) (pn : List (Addr × Obj)), Zc cls d oe → (∃ vs, oe.data = .fields vs) → PSs ((cxOf C8.CX0 X.prog X.w X.K X.mg X.base Ng x sg g cdg X.A X.stack s H C8.E0).nox.suite c ((c, oe) :: pn)) (b₀ :: suite) (ts c cls d)) :
    GivesTo X Ng x sg g cdg [.Try [.Return (some (.Call (.Name a p1) [] [] p2)) p3] [.ExceptHandler (some (.Name e p4)) (some n) (b₀ :: suite) p5] [] [] p6] a q (TAs X.K CS Ng i ts) := by
  intro f c' s H Q tl act known told
  let Z := (cxOf C8.CX0 X.prog X.w X.K X.mg X.base Ng x sg g cdg X.A X.stack s H C8.E0).nox
  have glob : Gl Z e := hge
  let body : WX → TS := fun W D σ H1 => ∃ out : XK, (∀ cls d (σ' : L2.St) H', out cls d H' → σ'.length = Ng.length → W cls d σ' H') ∧ σ[0]? = some (some (.ref f)) ∧ H1 c' = some (CodeO c' q) ∧ tl out H1 D.rt
  have inner : ∀ (W : WX) (pn : List (Addr × Obj)) (xe : Value → Shared → Prop), Takes (Z.tr pn xe) W → PassesOwn (model Z.prog Z.w) Z.A Z.env xe → PSs (Z.tr pn xe) [.Return (some (.Call (.Name a p1) [] [] p2)) p3] (body W) := by
    intro W pn xe tk _
    refine ⟨fun pins s' σ H' D I told' => ?_⟩
    obtain ⟨out, hW, h1, h2, h3⟩ := told'
    exact (pss_one (ps_ret (pos := p3) (act _ pn xe out p1 p2 (takes_len tk) hW))).run pins s' σ H' D I ⟨h1, h2, h3⟩
  refine ⟨_, pss_one (ps_try_as (X := Z) (c := .ref CS) (i := i) (tb := body) (ts := ts) (Wout := fun _ _ _ _ => False) rfl rfl nd hi (hln s H) ⟨glob, hde, .inl hme⟩ L2.takes0 inner (fun c oe cls d pn hz hf => hsu s H c oe cls d pn hz hf)), ?_⟩
  exact ⟨_, fun cls d σ' H' w len => by
    obtain ⟨b, e1, e2, e3⟩ := w
    exact ⟨b, e1, fun hb c nc => e2 hb σ' c len nc, fun hb => e3 hb⟩, h0 f, known, told⟩
end
end Sm

set_option Elab.async false
set_option linter.all false
set_option maxRecDepth 100000
set_option maxHeartbeats 4000000
namespace Sm
open PySem PySem.Spec PyProof.Rows L2
/-! ### values of all kinds as data, dicts with text keys and ints too -/
def kD : Key → PyData
  | .inl i => .int i
  | .inr x => .str x
mutual
inductive Dq (K : PySem.W.Frag) (H : Hp) : V → PyData → Prop
  | non : Dq K H .non .none
  | bl (b : Bool) : Dq K H (.bl b) (.bool b)
  | int (i : Int) : Dq K H (.int i) (.int i)
  | str (x : Str) : Dq K H (.str x) (.str x)
  | lst {a : Addr} {xs : List V} {ds : List PyData} : H a = some (.lst xs) → (a == sysModules) = false → DqAll K H xs ds → Dq K H (.ref a) (.list ds)
  | tup {a : Addr} {xs : List V} {ds : List PyData} : H a = some (.tup xs) → DqAll K H xs ds → Dq K H (.ref a) (.tuple ds)
  | dic {a : Addr} (kvs : List (Key × Int)) : H a = some (.dK (kvs.map fun q => (q.1, V.int q.2))) → Dq K H (.ref a) (.dict (kvs.map fun q => (kD q.1, PyData.int q.2)))
inductive DqAll (K : PySem.W.Frag) (H : Hp) : List V → List PyData → Prop
  | nil : DqAll K H [] []
  | cons {v : V} {vs : List V} {d : PyData} {ds : List PyData} : Dq K H v d → DqAll K H vs ds → DqAll K H (v :: vs) (d :: ds)
end
mutual
theorem Dq.mono {K : PySem.W.Frag} {H H' : Hp} (e : ∀ b o, H b = some o → H' b = some o) : ∀ (d : PyData) (v : V), Dq K H v d → Dq K H' v d
  | .none, _, h => by cases h; exact .non
  | .bool b, _, h => by cases h; exact .bl b
  | .int i, _, h => by cases h; exact .int i
  | .str x, _, h => by cases h; exact .str x
  | .list ds, _, h => by
    cases h with
    | lst hs ne ha => exact .lst (e _ _ hs) ne (Dq.monoAll e ds _ ha)
  | .tuple ds, _, h => by
    cases h with
    | tup hs ha => exact .tup (e _ _ hs) (Dq.monoAll e ds _ ha)
  | .dict _, _, h => by
    cases h with
    | dic kvs hk => exact .dic kvs (e _ _ hk)
theorem Dq.monoAll {K : PySem.W.Frag} {H H' : Hp} (e : ∀ b o, H b = some o → H' b = some o) : ∀ (ds : List PyData) (vs : List V), DqAll K H vs ds → DqAll K H' vs ds
  | [], _, h => by cases h; exact .nil
  | d :: ds, _, h => by
    cases h with
    | cons h1 h2 => exact .cons (Dq.mono e d _ h1) (Dq.monoAll e ds _ h2)
end
theorem Dq.same {K : PySem.W.Frag} {H H' : Hp} {v : V} {d : PyData} (h : Dq K H v d) (s : Same H H') : Dq K H' v d := Dq.mono (fun b o => s b o) d v h
section
variable {X : Cx} {pins : List (Addr × Obj)} {σ : L2.St} {H : Hp} {s : Shared}
theorem dic_keys {h : Heap} {P : Program} {w : World} : ∀ {es : List DictEntry} {vs : List (Key × Value)} {kvs : List (Key × Int)}, Pairs (mixKind P w) es vs → KV (kvs.map fun q => (q.1, V.int q.2)) vs →
    ReadsAll h (es.map (·.key)) (kvs.map fun q => kD q.1) [] ∧ ReadsAll h (es.map (·.val)) (kvs.map fun q => PyData.int q.2) []
  | [], _, kvs, .nil, r => by
    cases kvs with
    | nil => exact ⟨.nil, .nil⟩
    | cons a b => exact nomatch r
  | e :: es, _, kvs, .cons h1 h2 h3, r => by
    cases kvs with
    | nil => exact nomatch r
    | cons a b =>
      cases r with
      | cons r1 r2 =>
        obtain ⟨q1, q2⟩ := dic_keys (h := h) h3 r2
        obtain ⟨g1, g2⟩ := r1
        have g1 : a.1 = _ := g1
        have g2 : RelV (V.int a.2) _ := g2
        obtain ⟨t, g2⟩ := g2
        refine ⟨?_, ?_⟩
        · have hk : Reads h e.key (kD a.1) [] := by
            rcases keyIs_shape h1 with ⟨i, t, e1, e2⟩ | ⟨x, t, e1, e2⟩
            · rw [g1, e2, e1]
              exact .int i t
            · rw [g1, e2, e1]
              exact .str x t
          exact .cons hk q1
        · have hv : Reads h e.val (.int a.2) [] := by
            rw [h2, g2]
            exact .int _ t
          exact .cons hv q2
mutual
theorem Dq.reads (I : Inv X pins σ H s) : ∀ (d : PyData) (v : V) (u : Value), Dq X.K H v d → RelV v u → ∃ as, Reads s.heap u d as ∧ sysModules ∉ as
  | .none, _, _, h, r => by
    cases h
    cases r
    exact ⟨_, Reads.none, List.not_mem_nil⟩
  | .bool b, _, _, h, r => by
    cases h
    cases r
    exact ⟨_, Reads.bool b, List.not_mem_nil⟩
  | .int i, _, _, h, r => by
    cases h
    obtain ⟨t, rfl⟩ := r
    exact ⟨_, Reads.int i t, List.not_mem_nil⟩
  | .str x, _, _, h, r => by
    cases h
    obtain ⟨t, rfl⟩ := r
    exact ⟨_, Reads.str x t, List.not_mem_nil⟩
  | .list ds, _, _, h, r => by
    cases h with
    | lst hs ne ha =>
      cases r
      obtain ⟨its, rv, ⟨o, n, ho, hc, _, hd⟩, _⟩ := I.list (SqL.of hs)
      obtain ⟨as, hr, hm⟩ := Dq.readsAll I ds _ its ha rv
      refine ⟨_, Reads.list ho hc hd hr, fun m => ?_⟩
      rcases List.mem_cons.mp m with e | e
      · rw [← e, beq_self_eq_true] at ne
        cases ne
      · exact hm e
  | .tuple ds, _, _, h, r => by
    cases h with
    | tup hs ha =>
      cases r
      obtain ⟨its, rv, ⟨o, ho, hc, n, hd⟩, _⟩ := I.tuple (SqT.of hs)
      obtain ⟨as, hr, hm⟩ := Dq.readsAll I ds _ its ha rv
      exact ⟨_, Reads.tuple ho hc hd hr, hm⟩
  | .dict _, _, _, h, r => by
    cases h with
    | dic kvs hk =>
      cases r
      obtain ⟨_, hd, vs, kv, o, es, ep, h1, h2, h3, _, h4, _⟩ := dk_of I.hok hk
      obtain ⟨q1, q2⟩ := dic_keys (h := s.heap) h4 kv
      have e1 : (kvs.map fun q => (kD q.1, PyData.int q.2)).map (·.1) = kvs.map fun q => kD q.1 := by rw [List.map_map]; rfl
      have e2 : (kvs.map fun q => (kD q.1, PyData.int q.2)).map (·.2) = kvs.map fun q => PyData.int q.2 := by rw [List.map_map]; rfl
      refine ⟨_, Reads.dict h1 h2.1 h3 (by rw [e1]; exact q1) (by rw [e2]; exact q2), fun m => ?_⟩
      rw [List.append_nil] at m
      rw [← List.mem_singleton.mp m, beq_self_eq_true] at hd
      cases hd
theorem Dq.readsAll (I : Inv X pins σ H s) : ∀ (ds : List PyData) (vs : List V) (us : List Value), DqAll X.K H vs ds → Vals vs us → ∃ as, ReadsAll s.heap us ds as ∧ sysModules ∉ as
  | [], _, _, h, r => by
    cases h
    cases r
    exact ⟨_, ReadsAll.nil, List.not_mem_nil⟩
  | d :: ds, _, _, h, r => by
    cases h with
    | cons h1 h2 =>
      cases r with
      | cons r1 r2 =>
        obtain ⟨as, q1, m1⟩ := Dq.reads I d _ _ h1 r1
        obtain ⟨bs, q2, m2⟩ := Dq.readsAll I ds _ _ h2 r2
        refine ⟨_, ReadsAll.cons q1 q2, fun m => ?_⟩
        rcases List.mem_append.mp m with e | e
        · exact m1 e
        · exact m2 e
end
/-- the built-in class of such a value -/
def tyN : PyData → String
  | .none => "NoneType"
  | .bool _ => "bool"
  | .int _ => "int"
  | .str _ => "str"
  | .list _ => "list"
  | .tuple _ => "tuple"
  | .dict _ => "dict"
theorem Dq.ty {K : PySem.W.Frag} {v : V} {d : PyData} (h : Dq K H v d) : TyX K H v (.type (tyN d)) := by
  cases h with
  | non => exact .base .non
  | bl b => exact .base (.bl b)
  | int i => exact .base (.int i)
  | str x => exact .base (.str x)
  | lst e _ _ => exact .base (.lst e)
  | tup e _ => exact .base (.tup e)
  | dic kvs e => exact .base (.dK e)
end
def isT (n m : String) : Bool := m == n || (n == "int" && m == "bool")
def isOf (n : String) (d : PyData) : Bool := isT n (tyN d)
theorem kit_q {K : PySem.W.Frag} {n : String} {d : PyData} (h : n = "int" ∨ n = "bool" ∨ n = "str" ∨ n = "tuple" ∨ n = "list") : PySem.W.kitOne K (.type (tyN d)) (.type n) = some (isOf n d) := by
  refine kit_ty ?_
  unfold isOf
  have m : tyN d = "NoneType" ∨ tyN d = "bool" ∨ tyN d = "int" ∨ tyN d = "str" ∨ tyN d = "list" ∨ tyN d = "tuple" ∨ tyN d = "dict" := by
    cases d <;> simp [tyN]
  generalize tyN d = m' at m
  rcases h with rfl | rfl | rfl | rfl | rfl <;> rcases m with rfl | rfl | rfl | rfl | rfl | rfl | rfl <;> decide +kernel
section
variable {X : Cx}
/-- isinstance(x, T), x of any kind, T built in -/
def rIsQ (K : PySem.W.Frag) : List V → Hp → VK → Prop := fun xs H Q => ∃ (x : V) (d : PyData) (n : String), xs = [x, .ty n] ∧ Dq K H x d ∧ (n = "int" ∨ n = "bool" ∨ n = "str" ∨ n = "tuple" ∨ n = "list") ∧ Q (.bl (isOf n d)) H
theorem call_isQ : CallR X (.builtin "isinstance") (rIsQ X.K) := by
  intro pins s σ H xs us Q I r h
  obtain ⟨x, d, n, rfl, hd, hn, q⟩ := h
  exact call_isi pins s σ H _ us Q I r ⟨x, .ty n, _, _, _, rfl, .ty n, hd.ty, kit_q hn, q⟩
/-- repr of a value of any kind -/
def rReprQ (K : PySem.W.Frag) : List V → Hp → VK → Prop := fun xs H Q => ∃ v d, xs = [v] ∧ Dq K H v d ∧ PyData.showable d = true ∧ d.depth ≤ 60 ∧ d.shown.length ≤ sizeLine ∧ Q (.str d.shown) H
theorem call_reprQ (gu : X.A.guards = some []) (room : ∃ k, Room k X.A) : CallR X (.builtin "repr") (rReprQ X.K) := by
  intro pins s σ H xs us Q I rel want
  obtain ⟨v, d, rfl, data, sh, dep, len, q⟩ := want
  obtain ⟨u, rfl, ru⟩ := vals1 rel
  obtain ⟨as, reads, ns⟩ := Dq.reads I d _ u data ru
  obtain ⟨k, room⟩ := room
  have un := room.un
  have done : ∀ h' (v : Value) tk, (∀ b o, s.heap.get? b = some o → h'.get? b = some o) → (∃ t, v = Value.str d.shown t) → ∃ y H2, Inv X pins σ H2 { s with heap := h', toks := tk } ∧ RelV y v ∧ Q y H2 := fun h' v tk keep e => ⟨.str d.shown, H, I.kept keep, e, q⟩
  have at_ : ∀ a, u = .ref a → _ := fun a e => repr_of_reads' (A := X.A) (s := s) (prog := X.prog) (w := X.w) (E := X.xe) (Q := fun y s' => ∃ z H2, Inv X pins σ H2 s' ∧ RelV z y ∧ Q z H2) (by rw [← e]; exact reads) sh (fun _ => ns) gu (by omega) (fun _ _ e => e) (fun h' v tk keep => ⟨.str d.shown, H, I.kept keep, ⟨_, rfl⟩, q⟩) len
  cases data with
  | non =>
    cases ru
    exact PySem.P.repr_of_none ⟨.str _, H, I.tok _, ⟨_, rfl⟩, q⟩
  | bl b =>
    cases ru
    refine PySem.P.repr_of_bool ⟨.str _, H, I.tok _, ⟨_, rfl⟩, ?_⟩
    cases b <;> exact q
  | int i =>
    obtain ⟨t, rfl⟩ := ru
    exact PySem.P.repr_of_int (of_decide_eq_true (by simpa [PyData.showable] using sh)) ⟨.str _, H, I.tok _, ⟨_, rfl⟩, q⟩
  | str x =>
    obtain ⟨t, rfl⟩ := ru
    exact PySem.P.repr_of_str ⟨.str _, H, I.tok _, ⟨_, rfl⟩, q⟩ len
  | lst e1 e2 e3 =>
    cases ru
    exact at_ _ rfl
  | tup e1 e2 =>
    cases ru
    exact at_ _ rfl
  | dic kvs e1 =>
    cases ru
    exact at_ _ rfl
/-- a list is made: it is not sys.modules -/
def tLstN (t : TA) : TE := fun σ H Q => t σ H fun xs H1 => xs.length ≤ sizeLine ∧ ∀ p, H1 p = none → (p == sysModules) = false → Q (.ref p) (upd H1 p (.lst xs))
theorem pe_lstN {es : List Expr} {pos : Pos} {t : TA} (h : PA X es t) : PE X (.List es pos) (tLstN t) := by
  refine ⟨fun pins s σ H Q I hq => ?_⟩
  refine wpAny_List_spliced (thn (h.run pos pins s σ H _ I hq) fun us s1 ⟨xs, H1, I1, r, z, q⟩ => ⟨by rw [← r.length]; exact z, ?_⟩)
  have hf : H1 s1.heap.objs.size = none := I1.hok.fresh (Nat.le_refl _)
  have hs : (s1.heap.objs.size == sysModules) = false := beq_eq_false_iff_ne.mpr (Ne.symm (Nat.ne_of_lt I1.big))
  refine ⟨.ref s1.heap.objs.size, upd H1 s1.heap.objs.size (.lst xs), I1.laid (t' := s1.toks) (fun b u e => Heap.get?_push_of_some _ e) (Nat.le_refl _) ?_, rfl, q _ hf hs⟩
  exact ⟨z, us, 0, r, Heap.get?_push_size _ rfl⟩
/-- list(t) of a tuple -/
theorem call_listN : CallR X (.type "list") (fun xs H Q => ∃ p ys, xs = [.ref p] ∧ H p = some (.tup ys) ∧ ∀ l, H l = none → (l == sysModules) = false → Q (.ref l) (upd H l (.lst ys))) := by
  intro pins s σ H xs us Q I r h
  obtain ⟨p, ys, rfl, hq, q⟩ := h
  have hs : (s.heap.objs.size == sysModules) = false := beq_eq_false_iff_ne.mpr (Ne.symm (Nat.ne_of_lt I.big))
  obtain ⟨u, rfl, rx⟩ := vals1 r
  cases rx
  obtain ⟨its, r', pl, hz⟩ := I.tuple (SqT.of hq)
  have hlen := r'.length
  obtain ⟨o, ho, hc, n, hd⟩ := pl
  exact call_list_seq p (.inr rfl) ho hc hd (fun h' c' kp e => ⟨.ref s.heap.objs.size, _, I.laid (t' := s.toks) kp (Nat.le_refl _) (show ObjOk X.prog X.w _ h' _ (.lst ys) from ⟨hz, its, c', r', e⟩), rfl, q _ (I.hok.fresh (Nat.le_refl _)) hs⟩) (by simp only [List.size_toArray] <;> omega)
end
end Sm

set_option Elab.async false
set_option linter.all false
set_option maxRecDepth 100000
set_option maxHeartbeats 4000000
namespace Sm
open PySem PySem.Spec PyProof.Rows L2 LamX
/-- repr of a value of any kind, in an except suite too -/
theorem call_reprU {X : Cx} (gu : X.A.guards = some []) (un : X.A.units + 100 < cLine) : CallR X (.builtin "repr") (rReprQ X.K) := by
  rintro pins s σ H xs us Q I rel ⟨v, d, rfl, data, sh, dep, len, q⟩
  obtain ⟨u, rfl, ru⟩ := vals1 rel
  obtain ⟨as, reads, ns⟩ := Dq.reads I d _ u data ru
  have at_ : ∀ a, u = .ref a → _ := fun a e => repr_of_reads' (A := X.A) (s := s) (prog := X.prog) (w := X.w) (E := X.xe) (Q := fun y s' => ∃ z H2, Inv X pins σ H2 s' ∧ RelV z y ∧ Q z H2) (by rw [← e]; exact reads) sh (fun _ => ns) gu (by omega) (fun _ _ e => e) (fun h' v tk keep => ⟨.str d.shown, H, I.kept keep, ⟨_, rfl⟩, q⟩) len
  cases data with
  | non => cases ru; exact PySem.P.repr_of_none ⟨.str _, H, I.tok _, ⟨_, rfl⟩, q⟩
  | bl b => cases ru; exact PySem.P.repr_of_bool ⟨.str _, H, I.tok _, ⟨_, rfl⟩, by cases b <;> exact q⟩
  | int i => obtain ⟨t, rfl⟩ := ru; exact PySem.P.repr_of_int (of_decide_eq_true (by simpa [PyData.showable] using sh)) ⟨.str _, H, I.tok _, ⟨_, rfl⟩, q⟩
  | str x => obtain ⟨t, rfl⟩ := ru; exact PySem.P.repr_of_str ⟨.str _, H, I.tok _, ⟨_, rfl⟩, q⟩ len
  | lst e1 e2 e3 => cases ru; exact at_ _ rfl
  | tup e1 e2 => cases ru; exact at_ _ rfl
  | dic kvs e1 => cases ru; exact at_ _ rfl
section
variable {X : Cx} {pins : List (Addr × Obj)} {σ : L2.St} {H : Hp} {s : Shared}
/-- a local name read, nothing else happens -/
theorem ld_var {E : Value → Shared → Prop} {Q : Value → Shared → Prop} {i : Nat} {x : Str} {pos : Pos} {v : V} (I : Inv X pins σ H s) (named : X.N[i]? = some x) (seen : Vis X.env.scope x) (e : σ[i]? = some (some v)) (h : ∀ u, RelV v u → Q u s)
    (hd : (x == ("__debug__" : Str)) = false := by decide) (hcd : (x == ("__classdict__" : Str)) = false := by decide) : wpAny (model X.prog X.w) X.A (eval (.Name x pos) X.env) Q E s := by
  obtain ⟨m, hn, hl⟩ := I.loc
  obtain ⟨u, r, l⟩ := hl i x v named e seen
  rcases l with ⟨hk, hm⟩ | ⟨hk | hk, c, hc, hcell⟩
  · exact wpAny_Name (wpAny_loadName_local I.ok.kind hk hn hm (h u r)) hd
  · exact wpAny_Name (wpAny_loadName_cell I.ok.kind hk hc hcell (h u r)) hd
  · exact wpAny_Name (wpAny_loadName_free I.ok.kind hk hc hcell (h u r) hcd) hd
/-- x() in the def that got the lambda: what is raised is taken at the very slots -/
theorem pe_actS {Ng : List Str} {qg : Str} {sg : Scope} {g f c' : Addr} {cdg pm ctv : Value} {params : Arguments} {body : Expr} {scope : Scope} {k i : Nat} {a : Str} {pn : List (Addr × Obj)} {xe : Value → Shared → Prop} {W : WX} {E : XK} {tb : TE} {p1 p2 : Pos} (σ0 : L2.St)
    (I : Inv X pins σ H s) (L : LamS X.env.scope scope) (hf : s.heap.get? f = some (PySem.W.kla_obj "<lambda>" (X.env.qual ++ "<lambda>") params body scope (cloFrom X.env.cells scope.names []) pm c' ctv)) (hfn : H f = none) (hfr : f ∉ frs X.stack)
    (hbind : bindArgs (PySem.W.kla_fn "<lambda>" (X.env.qual ++ "<lambda>") params body scope (cloFrom X.env.cells scope.names []) pm (.ref c') ctv) ⟨[], []⟩ = pure [])
    (tk : Takes ((cxOf C8.CX0 X.prog X.w X.K X.mg X.base Ng qg sg g cdg X.A X.stack s H C8.E0).tr pn xe) W) (hW : ∀ cls d H', E cls d H' → W cls d σ0 H') (hr : Room (k + 1) (X.A.deeper (envOfC qg sg s.heap.objs.size g cdg)))
    (hbody : ∀ (A : Around) (outer : List Env) (s : Shared) (H : Hp), Room k (A.deeper (lamEnv X scope s.heap.objs.size f c')) → PE (lamCx X A outer s H E scope f c') body tb)
    (hN : Ng[i]? = some a) (hv : Vis sg a) (hd : (a == ("__debug__" : Str)) = false := by decide) (hcd : (a == ("__classdict__" : Str)) = false := by decide) :
    PE ((cxOf C8.CX0 X.prog X.w X.K X.mg X.base Ng qg sg g cdg X.A X.stack s H C8.E0).tr pn xe) (.Call (.Name a p1) [] [] p2) (fun σZ HZ Q => σZ = σ0 ∧ σZ[i]? = some (some (.ref f)) ∧ HZ c' = some (CodeO c' (X.env.qual ++ "<lambda>")) ∧ tb σ HZ Q) := by
  refine ⟨fun pinsZ sZ σZ HZ Q IZ h => ?_⟩
  obtain ⟨rfl, hs, hc, ht⟩ := h
  refine wpAny_Call_Name_kw (ld_var IZ (pos := p1) (i := i) hN hv hs (fun u r1 => ?_) hd hcd)
  obtain rfl : u = Value.ref f := r1
  have of1 := IZ.base.keep f _ hf hfn hfr (fun z => nomatch (show f ∈ ([] : List Addr) from z))
  refine PySem.W.callWith_F0 ⟨_, _, _, _, of1⟩ ?_
  have un : Un (frs X.stack) [] H HZ s.heap sZ.heap := IZ.base
  obtain ⟨⟨oc, vs, t, hoc, hdc, hvc⟩, _, _⟩ := IZ.hok c' _ hc
  have ran : codeAny (model X.prog X.w) (X.A.deeper (envOfC qg sg s.heap.objs.size g cdg)) (.call (.ref f) ⟨[], []⟩) (CR (L2.CX X.prog X.w) (envOfC qg sg s.heap.objs.size g cdg :: X.stack) X.prog X.w HZ sZ Q E) sZ := by
    refine PySem.W.kla_callFunE hr.depth of1 rfl L.co L.gen rfl ⟨c', oc, vs, t, rfl, hoc, hdc, hvc⟩ ?_
    rw [hbind]
    refine wpAny_pure (wpAny_newFunctionEnv (fun y hy => (L.own y hy).2) (fun y hy => absurd hy (by simp)) (fun h₁ names same => ⟨IZ.nolimit.fresh _ same, ?_⟩) L.kind)
    have keep : ∀ b o, sZ.heap.get? b = some o → h₁.get? b = some o := fun b o e => same.extBut b o (Nat.ne_of_lt (Heap.lt_size e)) (Heap.get?_push_of_some _ e)
    refine PySem.W.kla_codeExpr (wpAny_mono ((hbody _ _ sZ HZ (hr.deeper _)).run [] _ _ HZ Q (lam_start2 I L IZ.env0 hr.hd un names keep) ht) ?_ fun e s' hq => hq)
    rintro v s' ⟨w', H', J', rv, q⟩
    exact ⟨w', H', J'.os, J'.bare, J'.base, J'.hok, rv, q⟩
  refine wpAny_call (codeAny_mono ran ?_)
  rintro (e | fl) s' hq
  · exact tk e s' (XE.of_call IZ (fun cls d H' h => hW cls d H' h) hq)
  match fl, hq with
  | .ret u, hq => exact IZ.after hq
  | .next, hq => exact False.elim hq
  | .brk, hq => exact False.elim hq
  | .cont, hq => exact False.elim hq
end
/-- the def that gets a lambda and a value: TT tells what it makes of both -/
def Gives2 (X : Cx) (Ng : List Str) (x : Str) (sg : Scope) (g : Addr) (cdg : Value) (bg : List Stmt) (a : Str) (q : Str) (TT : V → (XK → Hp → VK → Prop) → Hp → VK → Prop) : Prop :=
  ∀ (f c' : Addr) (s : Shared) (H : Hp) (v : V) (Q : VK) (tl : XK → Hp → VK → Prop),
    (∀ (W : WX) (pn : List (Addr × Obj)) (xe : Value → Shared → Prop) (E : XK) (p1 p2 : Pos) (σ0 : L2.St), Takes ((cxOf C8.CX0 X.prog X.w X.K X.mg X.base Ng x sg g cdg X.A X.stack s H C8.E0).tr pn xe) W → (∀ cls d H', E cls d H' → W cls d σ0 H') →
      PE ((cxOf C8.CX0 X.prog X.w X.K X.mg X.base Ng x sg g cdg X.A X.stack s H C8.E0).tr pn xe) (.Call (.Name a p1) [] [] p2) (fun σZ HZ Q => σZ = σ0 ∧ σZ[0]? = some (some (.ref f)) ∧ HZ c' = some (CodeO c' q) ∧ tl E HZ Q)) →
    H c' = some (CodeO c' q) → TT v tl H Q →
    ∃ t, PSs (cxOf C8.CX0 X.prog X.w X.K X.mg X.base Ng x sg g cdg X.A X.stack s H C8.E0).nox bg t ∧ t { nx := fun _ H' => Q .non H', rt := Q } (L2.start Ng [.ref f, v]) H
def tLam2 (T : List (Addr × Str)) (TT : V → (XK → Hp → VK → Prop) → Hp → VK → Prop) (t : XK → TE) (j : Nat) : TE := fun σ H Q => Tabs T H ∧ ∃ v, σ[j]? = some (some v) ∧ ∀ H1, ExtN H H1 → Tabs T H1 → TT v (fun E H' Q' => t E σ H' Q') H1 Q
section
variable {X : Cx}
/-- x(lambda: body, y) -/
theorem pe_lamcall2 {T : List (Addr × Str)} {TT : V → (XK → Hp → VK → Prop) → Hp → VK → Prop} {x a b y : Str} {g c P : Addr} {k j : Nat} {pg : Arguments} {bg : List Stmt} {sg : Scope} {dV kV doc pm cdv ct oc : Value} {an od : Option Addr} {osl : Array (Option Value)} {Ng : List Str}
    {params : Arguments} {body : Expr} {scope : Scope} {t : XK → TE} {p lpos pos py : Pos} (hg : Gl X x) (hm : X.mg x = some (.ref g)) (hk : PySem.W.keepIn X.K (.ref g) = true)
    (lk : X.K.lookup g = some ⟨oc, od, .func (PySem.W.fnOf x x pg bg sg dV kV doc pm an cdv ct), osl⟩) (hcg : PySem.W.codeIn X.K cdv x = true) (hb : L2.Binds X.K (PySem.W.fnOf x x pg bg sg dV kV doc pm an cdv ct) [a, b] []) (Sg : FnScope Ng [a, b] sg) (hNg : Ng[0]? = some a) (hva : Vis sg a)
    (hG : Gives2 X Ng x sg g cdv bg a (X.env.qual ++ "<lambda>") TT)
    (TB : TabB X.base X.mg c P) (hcode : X.env.code = .ref c) (hmT : (P, X.env.qual ++ "<lambda>") ∈ T) (hu : ∀ p ∈ T, p.1 = P → p.2 = X.env.qual ++ "<lambda>") (hr : Room (k + 2) X.A) (L : LamS X.env.scope scope) (hdef : defaultsOf params X.env = ([], []))
    (hbind : ∀ (q : Str) (cl : List (Str × Addr)) (pm cv ctv : Value), bindArgs (PySem.W.kla_fn "<lambda>" q params body scope cl pm cv ctv) ⟨[], []⟩ = pure [])
    (hbody : ∀ (A : Around) (outer : List Env) (s : Shared) (H : Hp) (E : XK) (f c' : Addr), Room k (A.deeper (lamEnv X scope s.heap.objs.size f c')) → PE (lamCx X A outer s H E scope f c') body (t E))
    (named : X.N[j]? = some y) (seen : Vis X.env.scope y)
    (hdb : (x == ("__debug__" : Str)) = false := by decide) (hd : (a == ("__debug__" : Str)) = false := by decide) (hcd : (a == ("__classdict__" : Str)) = false := by decide) (hyd : (y == ("__debug__" : Str)) = false := by decide) (hycd : (y == ("__classdict__" : Str)) = false := by decide) :
    PE X (.Call (.Name x p) [.Lambda params body scope lpos, .Name y py] [] pos) (tLam2 T TT t j) := by
  refine ⟨fun pins s σ H Q I h => ?_⟩
  obtain ⟨hT, v, hv, h⟩ := h
  refine wpAny_Call_Name_kw (ld_glob I hg hm (PySem.W.callWith_K (h₀ := X.base) I.ok.mod.kin hk ?_ (by rfl) (by rfl)) hdb)
  show wpAny _ _ (spliced ((false, eval (.Lambda params body scope lpos) X.env) :: backTo pos (starEach [.Name y py] X.env))) _ _ s
  refine Calls.spliced_cons (lam_make2 I TB hcode hmT hu hT hdef (L.has I.ok) ?_)
  intro f c' pm' ctv H1 s' I1 eN T1 hf hfn hfr hco
  show wpAny _ _ (spliced ((false, eval (.Name y py) X.env) :: backTo pos (starEach [] X.env))) _ _ s'
  refine Calls.spliced_cons (ld_var I1 named seen hv (fun u r1 => ?_) hyd hycd)
  refine Calls.spliced_nil ⟨I1.kIn, ?_⟩
  have ran : codeAny (model X.prog X.w) X.A (.call (.ref g) ⟨[.ref f, u], []⟩) (CR C8.CX0 X.stack X.prog X.w H1 s' Q C8.E0) s' := by
    refine run_ofS (N := Ng) (ps := [a, b]) (us := [.ref f, u]) (vs := [.ref f, v]) lk hcg Sg hr I1.env0 (hb s' [.ref f, u] I1.kIn rfl) (.cons rfl (.cons r1 .nil)) rfl fun room => ?_
    obtain ⟨t', got, fine⟩ := hG f c' s' H1 v Q (fun E H' Q' => t E σ H' Q') (fun W pn xe E p1 p2 σ0 tk hW => pe_actS (i := 0) σ0 I1 L hf hfn hfr (hbind _ _ _ _ _) tk hW room (fun A outer s H r2 => hbody A outer s H E f c' r2) hNg hva hd hcd) hco (h H1 eN T1)
    exact ⟨t', got.nox, fine⟩
  refine wpAny_call (codeAny_mono ran ?_)
  rintro (e | fl) s2 hq
  · exact (show False from hq).elim
  match fl, hq with
  | .ret u, hq => exact I1.after hq
  | .next, hq => exact False.elim hq
  | .brk, hq => exact False.elim hq
  | .cont, hq => exact False.elim hq
/-- try: a() / except e as n: a suite that is told by ts -/
def tActAs (K : PySem.W.Frag) (CS f c' : Addr) (q : Str) (i : Nat) (ts : Addr → Value → Option Addr → TS) (tl : XK → Hp → VK → Prop) : TS := fun D σ H => σ[0]? = some (some (.ref f)) ∧ H c' = some (CodeO c' q) ∧
  tl (fun cls d H' => wAs K (.ref CS) i ts (fun _ _ _ _ => False) D cls d σ H') H (fun _ H' => D.nx σ H')
theorem ps_act_as {Ng : List Str} {x a e n q : Str} {sg : Scope} {g CS f c' : Addr} {cdg : Value} {i : Nat} {b₀ : Stmt} {suite : List Stmt} {p1 p2 p3 p4 p5 p6 : Pos} {ts : Addr → Value → Option Addr → TS} {s : Shared} {H : Hp} {tl : XK → Hp → VK → Prop}
    (hge : sg.names.lookup e = some .globalImplicit) (hme : X.mg e = some (.ref CS)) (hde : (e == ("__debug__" : Str)) = false) (nd : Ng.Nodup) (hi : Ng[i]? = some n)
    (hln : (cxOf C8.CX0 X.prog X.w X.K X.mg X.base Ng x sg g cdg X.A X.stack s H C8.E0).nox.env.kindOf n = some .local)
    (act : ∀ (W : WX) (pn : List (Addr × Obj)) (xe : Value → Shared → Prop) (E : XK) (p1 p2 : Pos) (σ0 : L2.St), Takes ((cxOf C8.CX0 X.prog X.w X.K X.mg X.base Ng x sg g cdg X.A X.stack s H C8.E0).tr pn xe) W → (∀ cls d H', E cls d H' → W cls d σ0 H') →
      PE ((cxOf C8.CX0 X.prog X.w X.K X.mg X.base Ng x sg g cdg X.A X.stack s H C8.E0).tr pn xe) (.Call (.Name a p1) [] [] p2) (fun σZ HZ Q => σZ = σ0 ∧ σZ[0]? = some (some (.ref f)) ∧ HZ c' = some (CodeO c' q) ∧ tl E HZ Q))
    (hsu : ∀ (c : Addr) (oe : Obj) (cls : Value) (d : Option Addr) (pn : List (Addr × Obj)), Zc cls d oe → (∃ vs, oe.data = .fields vs) → PSs ((cxOf C8.CX0 X.prog X.w X.K X.mg X.base Ng x sg g cdg X.A X.stack s H C8.E0).nox.suite c ((c, oe) :: pn)) (b₀ :: suite) (ts c cls d)) :
    PS (cxOf C8.CX0 X.prog X.w X.K X.mg X.base Ng x sg g cdg X.A X.stack s H C8.E0).nox (.Try [.Expr (.Call (.Name a p1) [] [] p2) p3] [.ExceptHandler (some (.Name e p4)) (some n) (b₀ :: suite) p5] [] [] p6) (tActAs X.K CS f c' q i ts tl) := by
  let Z := (cxOf C8.CX0 X.prog X.w X.K X.mg X.base Ng x sg g cdg X.A X.stack s H C8.E0).nox
  have glob : Gl Z e := hge
  let tried : WX → TS := fun W D σ H1 => ∃ out : XK, (∀ cls d H', out cls d H' → W cls d σ H') ∧ σ[0]? = some (some (.ref f)) ∧ H1 c' = some (CodeO c' q) ∧ tl out H1 (fun _ H2 => D.nx σ H2)
  have inner : ∀ (W : WX) (pn : List (Addr × Obj)) (xe : Value → Shared → Prop), Takes (Z.tr pn xe) W → PassesOwn (model Z.prog Z.w) Z.A Z.env xe → PSs (Z.tr pn xe) [.Expr (.Call (.Name a p1) [] [] p2) p3] (tried W) := by
    intro W pn xe tk _
    refine ⟨fun pins s' σ H' D I told' => ?_⟩
    obtain ⟨out, hW, h1, h2, h3⟩ := told'
    exact (pss_one (ps_expr (pos := p3) (act _ pn xe out p1 p2 σ tk hW))).run pins s' σ H' D I ⟨rfl, h1, h2, h3⟩
  have whole := ps_try_as (X := Z) (c := .ref CS) (i := i) (tb := tried) (ts := ts) (Wout := fun _ _ _ _ => False) (pos := p6) (pos' := p5) (np := p4) rfl rfl nd hi hln ⟨glob, hde, .inl hme⟩ L2.takes0 inner (fun c oe cls d pn hz hf => hsu c oe cls d pn hz hf)
  refine ⟨fun pins s' σ H1 D I h => whole.run pins s' σ H1 D I ?_⟩
  obtain ⟨h1, h2, h3⟩ := h
  exact ⟨_, fun cls d H' h => h, h1, h2, h3⟩
end
end Sm

set_option Elab.async false
set_option linter.all false
set_option maxRecDepth 100000
set_option maxHeartbeats 4000000
namespace Sm
open PySem PySem.Spec PyProof.Rows L2
/-! ### try with several clauses `except C as n`, which together take all that the body raises -/
/-- behind a suite its name is gone -/
def offN (i : Nat) (D : Ends) : Ends := { nx := fun τ K => D.nx (τ.set i none) K, rt := D.rt, bk := fun τ K => D.bk (τ.set i none) K, ct := fun τ K => D.ct (τ.set i none) K }
def wNames (K : PySem.W.Frag) (D : Ends) : List (Value × Nat × (Addr → Value → Option Addr → TS)) → WX
  | [] => fun _ _ _ _ => False
  | (c, i, ts) :: more => fun cls d σ H => ∃ b, PySem.W.exmOne K cls c = some b ∧ (b = true → ∀ e, H e = none → ts e cls d (offN i D) (σ.set i (some (.ref e))) H) ∧ (b = false → wNames K D more cls d σ H)
inductive Clauses (X : Cx) : List ExceptHandler → List (Value × Nat × (Addr → Value → Option Addr → TS)) → Prop
  | nil : Clauses X [] []
  | cons {x n : Str} {c : Value} {i : Nat} {ts : Addr → Value → Option Addr → TS} {first : Stmt} {suite : List Stmt} {p q : Pos} {hds : List ExceptHandler} {more : List (Value × Nat × (Addr → Value → Option Addr → TS))}
      (known : Names X x c) (slot : X.N[i]? = some n) (own : X.env.kindOf n = some .local)
      (told : ∀ (e : Addr) (o : Obj) (cls : Value) (d : Option Addr) (pn : List (Addr × Obj)), Zc cls d o → (∃ vs, o.data = .fields vs) → PSs (X.suite e ((e, o) :: pn)) (first :: suite) (ts e cls d)) (rest : Clauses X hds more) :
      Clauses X (.ExceptHandler (some (.Name x p)) (some n) (first :: suite) q :: hds) ((c, i, ts) :: more)
section
variable {X : Cx} {body : List Stmt} {h₀ : ExceptHandler} {hds : List ExceptHandler} {cl : List (Value × Nat × (Addr → Value → Option Addr → TS))} {pos : Pos} {tb : WX → TS}
theorem ps_try_names (stk : X.stack = X.env :: X.outer) (frm : X.env.frame = some X.env.locals) (nd : X.N.Nodup)
    (inner : ∀ (W : WX) (pn : List (Addr × Obj)) (xe : Value → Shared → Prop), Takes (X.tr pn xe) W → PassesOwn (model X.prog X.w) X.A X.env xe → PSs (X.tr pn xe) body (tb W)) (cs : Clauses X (h₀ :: hds) cl) :
    PS X (.Try body (h₀ :: hds) [] [] pos) (fun D σ H => tb (wNames X.K D cl) D σ H) := by
  refine ⟨fun pins s σ H D I h => wpAny_Try_except ?_⟩
  have ok := I.ok
  refine wpAny_mono ((inner (wNames X.K D cl) (X.pn ++ pins) (fun e s₁ => wpAny (model X.prog X.w) X.A (noteFrame e X.env) (fun _ s₂ => wpAny (model X.prog X.w) X.A (setFlight e none) (fun _ s₃ => wpAny (model X.prog X.w) X.A (handleBy e X.env (h₀ :: hds)) (SP X pins D) X.xe s₃) X.xe s₂) X.xe s₁) ?_ PassesOwn.looking).run [] s σ H D (I.toTry _) h) ?_ (fun e s1 he => he)
  · rintro u s' ⟨a, B, sI, pins', τ, G, cls, d, rfl, J', bare, up, sky, fresh, os, ag, w⟩
    have J : Inv X pins τ G sI := J'.ofTry ok
    have sky2 : Sky B (X.env :: X.outer) a (Zc cls d) X.env.locals s'.heap := by rw [← stk]; exact sky
    show wpAny (model X.prog X.w) X.A (noteFrame (.ref a) X.env) _ _ _
    refine Sky.land Zc.steady (by rw [ok.frames, stk]) frm sky2 fun h3 fly up3 => ?_
    have landed : Inv X pins τ G { s' with heap := h3 } := J.landed bare fly.1 (up.trans up3) os ag
    obtain ⟨o3, vs3, there, kind, data⟩ := fly.there
    have outside : a ∉ frs (X.env :: X.outer) := fun m => by
      obtain ⟨_, o', e', no⟩ := fly.2.2.1.mem m
      rw [there] at e'; cases e'
      exact no _ data
    have nL : a ≠ X.env.locals := fun z => outside (List.mem_filterMap.mpr ⟨X.env, List.mem_cons_self, by rw [frm, z]⟩)
    have nF : a ∉ X.fs := fun m => by
      obtain ⟨e, he, q⟩ := List.mem_filterMap.mp m
      exact outside (List.mem_filterMap.mpr ⟨e, List.mem_cons_of_mem _ he, q⟩)
    have S3 := landed.suite there data fresh nL nF
    have typ : PySem.W.Looks (model X.prog X.w) h3 (typeOf (.ref a)) cls := fun A Q E s k q => wpAny_typeOf_ref (k _ _ there) (by rw [kind.1]; exact q)
    have each : ∀ {hs : List ExceptHandler} {ls : List (Value × Nat × (Addr → Value → Option Addr → TS))}, Clauses X hs ls → wNames X.K D ls cls d τ G → wpAny (model X.prog X.w) X.A (handleBy (.ref a) X.env hs) (SP X pins D) X.xe { s' with heap := h3 } := by
      intro hs ls cs
      induction cs with
      | nil => exact fun w => False.elim w
      | @cons x n c i ts first suite p q hds2 more known slot own told rest ih =>
        rintro ⟨b, asked, yes, no⟩
        refine wpAny_handleBy_cons (codeAny_handlers_test ?_) (by intro q; cases q)
        have match_ := PySem.W.exm_one (M := model X.prog X.w) landed.kIn typ asked
        have named : ∀ {Q : Value → Shared → Prop} {E : Value → Shared → Prop}, Q c { s' with heap := h3 } → wpAny (model X.prog X.w) (X.A.mark (some (.ref a))) (eval (.Name x p) X.env) Q E { s' with heap := h3 } := by
          intro Q E z
          obtain ⟨hg, hdbg, hm | ⟨hm, hv, hnn⟩⟩ := known
          · exact ld_glob (X := X.suite a ((a, o3) :: (X.pn ++ pins))) S3 hg hm z hdbg
          · exact ld_blt (X := X.suite a ((a, o3) :: (X.pn ++ pins))) S3 hg hm hv z hnn hdbg
        refine named (match_.here ?_)
        cases b with
        | false => exact ih (no rfl)
        | true =>
          refine codeAny_handlers_suite_as (HandSPX.lands_againZ fly fun h4 fly4 up4 => ?_)
          have J4 : Inv X pins τ G { s' with heap := h4 } := J.landed bare fly4.1 ((up.trans up3).trans up4) os ag
          obtain ⟨o4, vs4, there4, kind4, data4⟩ := fly4.there
          refine store_ok (X := X.suite a ((a, o4) :: (X.pn ++ pins))) (v := .ref a) (J4.suite there4 data4 fresh nL nF) nd slot (.inl own) rfl (fun s5 S5 => ?_) (.inr own)
          refine wpAny_mono ((told a o4 cls d (X.pn ++ pins) kind4 ⟨_, data4⟩).run [] s5 _ G _ S5 (yes rfl a fresh)) ?_ (fun _ _ z => False.elim z)
          intro fl s6 out
          have gone : ∀ {τ6 : L2.St} {H6 : Hp} {Q : Shared → Prop}, Inv (X.suite a ((a, o4) :: (X.pn ++ pins))) [] τ6 H6 s6 → (∀ s7, Inv X pins (τ6.set i none) H6 s7 → Q s7) → wpAny (model X.prog X.w) X.A (do bindName X.env n .none; unbindBehindTheSuite X.env n q) (fun _ s7 => Q s7) X.xe s6 :=
            fun {τ6 H6 Q} S6 z => gone_ok (S6.unsuite ok) nd slot own z
          match fl, out with
          | .next, ⟨τ6, H6, S6, z⟩ => exact gone S6 fun s7 J7 => ⟨_, _, J7, z⟩
          | .brk, ⟨τ6, H6, S6, z⟩ => exact gone S6 fun s7 J7 => ⟨_, _, J7, z⟩
          | .cont, ⟨τ6, H6, S6, z⟩ => exact gone S6 fun s7 J7 => ⟨_, _, J7, z⟩
          | .ret u, ⟨v6, τ6, H6, S6, r6, z⟩ => exact gone S6 fun s7 J7 => ⟨_, _, _, J7, r6, z⟩
    exact each cs w
  · intro fl s1 out
    match fl, out with
    | .next, ⟨τ, G, J', z⟩ => exact wpAny_execs_nil ⟨τ, G, J'.ofTry ok, z⟩
    | .brk, ⟨τ, G, J', z⟩ => exact ⟨τ, G, J'.ofTry ok, z⟩
    | .cont, ⟨τ, G, J', z⟩ => exact ⟨τ, G, J'.ofTry ok, z⟩
    | .ret u, ⟨v, τ, G, J', r, z⟩ => exact ⟨v, τ, G, J'.ofTry ok, r, z⟩
end
end Sm

set_option Elab.async false
set_option linter.all false
set_option maxRecDepth 100000
set_option maxHeartbeats 4000000
namespace Sm
open PySem PySem.Spec PyProof.Rows L2
/-! ### own exception classes with one field, over ValueError (XVal) and LookupError (XLook): what the written part says of them -/
structure XVal (K : PySem.W.Frag) (mg : Str → Option Value) (nm fl : Str) (C fI : Addr) : Prop where
  g : mg nm = some (.ref C)
  oex : OexC K C
  no : PySem.W.findIn K (.ref C) fl = some none
  iC : PySem.W.findIn K (.ref C) "__init__" = some (some (.ref fI))
  tI : PySem.W.typeIn K (.ref fI) = some (.type "function")
  xf : XfC K C
  ec : ExcC K C
  te : PySem.W.exmOne K (.ref C) (.ref C) = some true
structure XLook (K : PySem.W.Frag) (mg : Str → Option Value) (nm fl : Str) (C fI : Addr) : Prop where
  g : mg nm = some (.ref C)
  oex : OexL K C
  no : PySem.W.findIn K (.ref C) fl = some none
  iC : PySem.W.findIn K (.ref C) "__init__" = some (some (.ref fI))
  tI : PySem.W.typeIn K (.ref fI) = some (.type "function")
  xf : XfC K C
  ec : ExcC K C
  te : PySem.W.exmOne K (.ref C) (.ref C) = some true
/-- the def __init__ of such a class -/
def IniF (K : PySem.W.Frag) (q fl : Str) (st : Stmt) (fI : Addr) : Prop := ∃ fd, Fun K "__init__" q st fI fd ∧ Binds K fd ["self", fl] []
def CalX (P : Program) (w : World) (K : PySem.W.Frag) (mg : Str → Option Value) (base : Heap) (x : Str) (ps : List Str) (k : Nat) (sp : Sp) : Prop :=
  ∃ (f : Addr) (fd : FuncData), FnOk P w K mg base (L2.CX P w) k f fd ps sp ∧ mg x = some (.ref f) ∧ PySem.W.keepIn K (.ref f) = true ∧ Binds K fd ps []
/-- what is raised may be wished for at any slots that are there -/
theorem passL {X : Cx} {W : WX} {P : Program} {w : World} {n : Nat} (tk : Takes X W) (hp : X.prog = P := by rfl) (hw : X.w = w := by rfl) (hn : X.N.length = n := by rfl) : Passes (L2.CX P w) X (fun cls d H => ∀ σ : L2.St, σ.length = n → W cls d σ H) := by
  subst hp hw hn
  exact passes_call (takes_len tk) fun cls d σ H h => h σ
theorem un_mk {k : Nat} {A : Around} {h : Option Value} (r : Room k A) : (A.mark h).units + 100 < cLine := by
  have := r.un
  show A.units + 100 < cLine
  omega
theorem un_of {k : Nat} {A : Around} (r : Room k A) : A.units + 100 < cLine := by have := r.un; omega
/-- isinstance of an own instance -/
structure InsC (K : PySem.W.Frag) (C : Addr) : Prop where
  cl : Cls K C
  ha : PySem.W.findIn K (.ref C) "__class__" = some (some (.builtin "object.__class__"))
  hn : PySem.W.specialIn K (.builtin "object.__class__") "__get__" = some (some (.builtin "getset_descriptor.__get__"))
  ht : PySem.W.takesIn K (.builtin "object.__class__") = some true
  hm : PySem.W.mroIn K C (.type "object") = some true
theorem InsC.ty {K : PySem.W.Frag} {C a dx : Addr} {H : Hp} {fs : List (Str × V)} (c : InsC K C) (e : H a = some (.ins C dx fs)) : TyX K H (.ref a) (.ref C) := .base (.ins e c.cl c.ha c.hn c.ht c.hm)
/-! ### texts of texts -/
theorem ofString_small (s : String) : ∀ c ∈ (Str.ofString s).cps.toList, c < 16 ^ 8 := by
  intro c hc
  rw [signs_ofString] at hc
  obtain ⟨x, _, rfl⟩ := List.mem_map.mp hc
  have h : x.toNat < 1114112 := by
    have := x.valid
    rcases this with h | h
    · exact Nat.lt_trans h (by decide)
    · exact h.2
  exact Nat.lt_trans h (by decide)
end Sm

set_option Elab.async false
set_option linter.all false
set_option maxRecDepth 100000
set_option maxHeartbeats 4000000
namespace Sm
open PySem PySem.Spec PyProof.Rows L2
theorem own_ne {prog : Program} {w : World} {A : Around} {E : Value → Shared → Prop} {s : Shared} {K : PySem.W.Frag} {x C f : Addr} {ox : Obj} {od : Option Obj} {b tb : Value} {Q : Value → Shared → Prop} (u0 : A.units + 4 < cLine) (X : K.In s.heap) (J : PySem.W.InstAt s.heap x ox C od)
    (hb : PySem.W.Looks (model prog w) s.heap (typeOf b) tb) (nf : PySem.W.notFirst K C tb = true) (an : PySem.W.findIn K (.ref C) "__ne__" = some (some (.builtin "object.__ne__"))) (mo : PySem.W.mroIn K C (.type "object") = some true)
    (ae : PySem.W.findIn K (.ref C) "__eq__" = some (some (.ref f))) (fn : PySem.W.isFn K (.ref f) = true)
    (h : wpAny (model prog w) A.in1 (call (.ref f) [.ref x, b]) (fun v s' => ∃ r : Bool, v = .bool r ∧ Q (.bool (!r)) s') E s) : wpAny (model prog w) A (richCompare .NotEq (.ref x) b) Q E s := by
  have inner : wpAny (model prog w) A (call (.builtin "object.__ne__") [.ref x, b]) (fun v s' => ∃ r : Bool, v = .bool r ∧ Q (.bool r) s') E s := by
    refine wpAny_call (codeAny_call_builtin PySem.F.slot_object_ne.plain PySem.F.entry_object_ne (PySem.W.check_slot (i := "object.__ne__") (owner := "object") (n := "__ne__") (by decide +kernel) (by decide +kernel) (J.type.andThen (PySem.W.looks_mroIn X mo)) (PySem.F.args_object_ne_2 _ _) ?_))
    unfold Builtin.«object.__ne__»
    refine wpAny_bind (m := slotArgs "__ne__" 1 _) (wpAny_pure ?_)
    refine wpAny_bind (m := cRoomFor _ _) (wpAny_cRoomFor (by show A.units + 1 < cLine; omega) ?_)
    refine wpAny_bind (m := callSpecialIfBound? (.ref x) (Str.ofString "__eq__") _) (PySem.W.ifBound_K X J ae fn (wpAny_mono h ?_ fun _ _ z => z))
    rintro v s' ⟨r, rfl, q⟩
    exact wpAny_bind (wpAny_truthy_bool (wpAny_pure ⟨!r, rfl, q⟩))
  have one : wpAny (model prog w) A (tryCompare (.ref x) "__ne__" b) (fun r s' => ∃ z : Bool, r = some (.bool z) ∧ Q (.bool z) s') E s := by
    unfold tryCompare
    refine wpAny_bind ?_
    simp only [callSpecialIfBound?, bindSpecialIfBound?]
    refine wpAny_holding (wpAny_bind (wpAny_bind (wpAny_bind (J.type.here ((PySem.W.looks_findIn X an).here ?_)))))
    refine wpAny_bind (wpAny_askSetting (wpAny_ite ?_))
    have last : wpAny (model prog w) A (call (.builtin "object.__ne__") ([.ref x] ++ [b]) >>= fun v => pure (some v)) (fun r s' => wpAny (model prog w) A (match r with
      | some .notImplemented | none => pure none
      | some v => pure (some v)) (fun r s' => ∃ z : Bool, r = some (.bool z) ∧ Q (.bool z) s') E s') E s := by
      refine wpAny_bind (wpAny_mono inner ?_ fun _ _ z => z)
      rintro v s' ⟨r, rfl, q⟩
      exact wpAny_pure (wpAny_pure ⟨r, rfl, q⟩)
    split
    · exact wpAny_bind ((PySem.W.Looks.of_pure (PySem.F.slot_object_ne.bind _)).here (wpAny_pure (by exact last)))
    · exact wpAny_tryCatch (wpAny_bind ((PySem.W.Looks.of_pure (PySem.F.slot_object_ne.bind _)).here (wpAny_pure (by exact last))))
  unfold richCompare
  simp only [oneThing_ref]
  refine wpAny_holding (wpAny_bind (wpAny_cRoomFor (by omega) ?_))
  refine wpAny_bind (J.type.here (wpAny_bind (hb.here ?_)))
  have fin : wpAny (model prog w) A (tryCompare (.ref x) (cmpInfo .NotEq).2.1 b) (fun r s' => ∃ z : Bool, r = some (.bool z) ∧ Q (.bool z) s') E s := one
  split
  · rename_i q
    have e : PySem.W.subIn K tb (.ref C) = some false := by
      rcases Bool.or_eq_true_iff.mp nf with e | e
      · rw [beq_iff_eq.mp e] at q
        simp at q
      · exact beq_iff_eq.mp e
    refine wpAny_bind ((PySem.W.looks_subIn X e).here ?_)
    simp only [Bool.false_eq_true, if_false]
    refine wpAny_bind (wpAny_mono fin ?_ fun _ _ z => z)
    rintro r s' ⟨z, rfl, q⟩
    exact wpAny_pure q
  · refine wpAny_bind (wpAny_pure ?_)
    simp only [Bool.false_eq_true, if_false]
    refine wpAny_bind (wpAny_mono fin ?_ fun _ _ z => z)
    rintro r s' ⟨z, rfl, q⟩
    exact wpAny_pure q
/-! ### own special methods (__len__, __add__, __contains__, __eq__ ..) at instances of an own class -/
/-- the class at C has the def at f as its special method nm -/
structure Spm (K : PySem.W.Frag) (C : Addr) (nm : Str) (f : Addr) : Prop where
  at_ : PySem.W.findIn K (.ref C) nm = some (some (.ref f))
  fn : PySem.W.isFn K (.ref f) = true
section
variable {X : Cx} {CX : CXT} {n : Nat} {f C : Addr} {fd : FuncData} {ps : List Str} {sp : Sp} {E : XK}
/-- the def runs below the running body -/
theorem own_run {A : Around} {pins : List (Addr × Obj)} {s : Shared} {σ : L2.St} {H : Hp} {Q : VK} {us : List Value} {vs : List V} (F : FnOk X.prog X.w X.K X.mg X.base CX n f fd ps sp) (hb : Binds X.K fd ps []) (hx : Passes CX X E) (sb : Sub X n A)
    (I : Inv X pins σ H s) (r : Vals vs us) (h : sp vs H Q E) : wpAny (model X.prog X.w) A (call (.ref f) us) (EP X pins σ Q) X.xe s := by
  have z := I.env0
  have e0 : Env0 X.prog X.w X.K X.mg X.base A X.stack s H := ⟨by rw [sb.fr]; exact z.frames, z.mod, z.bs, z.bsz, z.funs, z.frf, z.hok, z.bare⟩
  have ln := F.len _ _ _ _ h
  have bi : BindsTo s fd ⟨us, []⟩ (ps.zip us) := by
    have q := hb s us I.kIn (by rw [List.append_nil, ← r.length]; exact ln)
    rwa [List.append_nil] at q
  refine wpAny_call (codeAny_mono (F.run A X.stack s H ⟨us, []⟩ us vs Q E sb.room e0 bi r h) ?_)
  rintro (e | out) s' got
  · exact hx pins σ H s e s' I got
  · match out, got with
    | .ret u, got => exact I.after got
    | .next, got => exact got.elim
    | .brk, got => exact got.elim
    | .cont, got => exact got.elim
theorem inst_of {pins : List (Addr × Obj)} {s : Shared} {σ : L2.St} {H : Hp} {a dx : Addr} {fs : List (Str × V)} (I : Inv X pins σ H s) (h : H a = some (.ins C dx fs)) : ∃ (ox : Obj) (od : Option Obj), PySem.W.InstAt s.heap a ox C od := by
  obtain ⟨mA, J, _⟩ := ins_get I.hok h
  obtain ⟨od, J, _⟩ := J.look
  exact ⟨_, _, J⟩
/-- len(o) -/
def rLenO (C : Addr) (sp : Sp) (E : XK) : List V → Hp → VK → Prop := fun xs H Q => ∃ (a dx : Addr) (fs : List (Str × V)), xs = [V.ref a] ∧ H a = some (.ins C dx fs) ∧ sp [.ref a] H (fun z H' => ∃ i : Int, z = .int i ∧ 0 ≤ i ∧ i < 2 ^ 63 ∧ Q (.int i) H') E
theorem call_lenO (m : Spm X.K C "__len__" f) (F : FnOk X.prog X.w X.K X.mg X.base CX n f fd ps sp) (hb : Binds X.K fd ps []) (hr : Room (n + 1) X.A) (hx : Passes CX X E) : CallR X (.builtin "len") (rLenO C sp E) := by
  intro pins s σ H xs us Q I r h
  obtain ⟨a, dx, fs, rfl, ha, q⟩ := h
  obtain ⟨u, rfl, ru⟩ := vals1 r
  cases (show u = Value.ref a from ru)
  obtain ⟨ox, od, J⟩ := inst_of I ha
  obtain ⟨mm, hF⟩ := I.fr
  refine PySem.W.len_K hF I.ok.mod.kin J m.at_ m.fn (wpAny_mono (own_run (A := X.A.in1) (vs := [.ref a]) F hb hx ⟨hr.in1, rfl⟩ I (.cons rfl .nil) q) ?_ fun _ _ z => z)
  rintro v s' ⟨z, H', I', rz, i, rfl, i0, i1, q⟩
  obtain ⟨t, rfl⟩ := (show ∃ t, v = Value.int i t from rz)
  exact ⟨⟨i0, i1⟩, .int i, H', I'.tok _, ⟨_, rfl⟩, q⟩
/-- x op y, both of the class -/
def rBinO (C : Addr) (sp : Sp) (E : XK) : R2 := fun x y H Q => ∃ (a dx : Addr) (fs : List (Str × V)) (b dy : Addr) (gs : List (Str × V)), x = .ref a ∧ y = .ref b ∧ H a = some (.ins C dx fs) ∧ H b = some (.ins C dy gs) ∧ sp [x, y] H Q E
theorem op_binO {op : Operator} (m : Spm X.K C (PySem.dunder op.info.2) f) (hc : PySem.W.selfFirst X.K C = true) (F : FnOk X.prog X.w X.K X.mg X.base CX n f fd ps sp) (hb : Binds X.K fd ps []) (hr : Room n X.A) (hx : Passes CX X E) : OpR X (binaryOp op) (rBinO C sp E) := by
  intro pins s σ H x y v u Q I rx ry h
  obtain ⟨a, dx, fs, b, dy, gs, rfl, rfl, ha, hb', q⟩ := h
  cases (show v = Value.ref a from rx)
  cases (show u = Value.ref b from ry)
  obtain ⟨ox, od, J⟩ := inst_of I ha
  obtain ⟨oy, ody, J'⟩ := inst_of I hb'
  obtain ⟨mm, hF⟩ := I.fr
  refine PySem.W.binop_K hF I.ok.mod.kin J J'.type hc m.at_ m.fn (wpAny_mono (own_run (vs := [.ref a, .ref b]) F hb hx ⟨hr, rfl⟩ I (.cons rfl (.cons rfl .nil)) q) ?_ fun _ _ z => z)
  rintro v s' ⟨z, H', I', rz, q⟩
  exact SlX.cmpback rz ⟨z, H', I', rz, q⟩
/-- x in o, x not in o -/
def rInO (neg : Bool) (C : Addr) (sp : Sp) (E : XK) : R2 := fun x y H Q => ∃ (b dy : Addr) (gs : List (Str × V)), y = .ref b ∧ H b = some (.ins C dy gs) ∧ sp [y, x] H (fun z H' => ∃ r : Bool, z = .bl r ∧ Q (.bl (if neg = true then !r else r)) H') E
theorem op_inO (m : Spm X.K C "__contains__" f) (F : FnOk X.prog X.w X.K X.mg X.base CX n f fd ps sp) (hb : Binds X.K fd ps []) (hr : Room n X.A) (hx : Passes CX X E) : OpR X (compareOp .In) (rInO false C sp E) := by
  intro pins s σ H x y v u Q I rx ry h
  obtain ⟨b, dy, gs, rfl, hb', q⟩ := h
  cases (show u = Value.ref b from ry)
  obtain ⟨oy, ody, J⟩ := inst_of I hb'
  obtain ⟨mm, hF⟩ := I.fr
  refine PySem.W.in_K hF I.ok.mod.kin J m.at_ m.fn (wpAny_mono (own_run (vs := [.ref b, x]) F hb hx ⟨hr, rfl⟩ I (.cons rfl (.cons rx .nil)) q) ?_ fun _ _ z => z)
  rintro v s' ⟨z, H', I', rz, r, rfl, q⟩
  cases (show v = Value.bool r from rz)
  exact wpAny_truthy_bool ⟨.bl r, H', I', rfl, q⟩
theorem op_notInO (m : Spm X.K C "__contains__" f) (F : FnOk X.prog X.w X.K X.mg X.base CX n f fd ps sp) (hb : Binds X.K fd ps []) (hr : Room n X.A) (hx : Passes CX X E) : OpR X (compareOp .NotIn) (rInO true C sp E) := by
  intro pins s σ H x y v u Q I rx ry h
  obtain ⟨b, dy, gs, rfl, hb', q⟩ := h
  cases (show u = Value.ref b from ry)
  obtain ⟨oy, ody, J⟩ := inst_of I hb'
  obtain ⟨mm, hF⟩ := I.fr
  refine PySem.W.notIn_K hF I.ok.mod.kin J m.at_ m.fn (wpAny_mono (own_run (vs := [.ref b, x]) F hb hx ⟨hr, rfl⟩ I (.cons rfl (.cons rx .nil)) q) ?_ fun _ _ z => z)
  rintro v s' ⟨z, H', I', rz, r, rfl, q⟩
  cases (show v = Value.bool r from rz)
  exact wpAny_truthy_bool ⟨.bl (!r), H', I', rfl, q⟩
/-- x == y, both of the class -/
theorem op_eqO (m : Spm X.K C "__eq__" f) (F : FnOk X.prog X.w X.K X.mg X.base CX n f fd ps sp) (hb : Binds X.K fd ps []) (hr : Room n X.A) (hx : Passes CX X E) : OpR X (compareOp .Eq) (rBinO C sp E) := by
  intro pins s σ H x y v u Q I rx ry h
  obtain ⟨a, dx, fs, b, dy, gs, rfl, rfl, ha, hb', q⟩ := h
  cases (show v = Value.ref a from rx)
  cases (show u = Value.ref b from ry)
  obtain ⟨ox, od, J⟩ := inst_of I ha
  obtain ⟨oy, ody, J'⟩ := inst_of I hb'
  obtain ⟨mm, hF⟩ := I.fr
  show wpAny (model X.prog X.w) X.A (richCompare .Eq (.ref a) (.ref b)) (EP X pins σ Q) X.xe s
  refine PySem.W.cmp_K (op := .Eq) (tb := .ref C) hr.units0 hF I.ok.mod.kin J J'.type (by simp [PySem.W.notFirst]) m.at_ m.fn (wpAny_mono (own_run (vs := [.ref a, .ref b]) F hb hx ⟨hr, rfl⟩ I (.cons rfl (.cons rfl .nil)) q) ?_ fun _ _ z => z)
  rintro v s' ⟨z, H', I', rz, q⟩
  exact SlX.cmpback rz ⟨z, H', I', rz, q⟩
/-- x != y, both of the class, which has no __ne__ of its own -/
def rNeO (C : Addr) (sp : Sp) (E : XK) : R2 := fun x y H Q => ∃ (a dx : Addr) (fs : List (Str × V)) (b dy : Addr) (gs : List (Str × V)), x = .ref a ∧ y = .ref b ∧ H a = some (.ins C dx fs) ∧ H b = some (.ins C dy gs) ∧ sp [x, y] H (fun z H' => ∃ r : Bool, z = .bl r ∧ Q (.bl (!r)) H') E
theorem op_neO (m : Spm X.K C "__eq__" f) (an : PySem.W.findIn X.K (.ref C) "__ne__" = some (some (.builtin "object.__ne__"))) (mo : PySem.W.mroIn X.K C (.type "object") = some true) (F : FnOk X.prog X.w X.K X.mg X.base CX n f fd ps sp) (hb : Binds X.K fd ps []) (hr : Room (n + 1) X.A) (hx : Passes CX X E) : OpR X (compareOp .NotEq) (rNeO C sp E) := by
  intro pins s σ H x y v u Q I rx ry h
  obtain ⟨a, dx, fs, b, dy, gs, rfl, rfl, ha, hb', q⟩ := h
  cases (show v = Value.ref a from rx)
  cases (show u = Value.ref b from ry)
  obtain ⟨ox, od, J⟩ := inst_of I ha
  obtain ⟨oy, ody, J'⟩ := inst_of I hb'
  show wpAny (model X.prog X.w) X.A (richCompare .NotEq (.ref a) (.ref b)) (EP X pins σ Q) X.xe s
  refine own_ne (by have := hr.un; omega) I.kIn J J'.type (by simp [PySem.W.notFirst]) an mo m.at_ m.fn (wpAny_mono (own_run (vs := [.ref a, .ref b]) F hb hx ⟨hr.in1, rfl⟩ I (.cons rfl (.cons rfl .nil)) q) ?_ fun _ _ z => z)
  rintro v s' ⟨z, H', I', rz, r, rfl, q⟩
  cases (show v = Value.bool r from rz)
  exact ⟨r, rfl, .bl (!r), H', I', rfl, q⟩
end
end Sm

set_option Elab.async false
set_option linter.all false
namespace L2
open PySem PySem.Spec PyProof.Rows
/-! == and != of data without dicts, whatever the signs of its texts -/
def rEqP (K : PySem.W.Frag) : R2 := fun x y H Q => ∃ d e, Dp K H x d ∧ Dp K H y e ∧ d.plain = true ∧ e.plain = true ∧ d.depth ≤ 60 ∧ Q (.bl (PyData.eqv d e)) H
def rNeP (K : PySem.W.Frag) : R2 := fun x y H Q => ∃ d e, Dp K H x d ∧ Dp K H y e ∧ d.plain = true ∧ e.plain = true ∧ d.depth ≤ 60 ∧ Q (.bl (!PyData.eqv d e)) H
section
variable {X : Cx}
theorem op_eqP (hu : X.A.units + 64 < cLine) : OpR X (compareOp .Eq) (rEqP X.K) := by
  intro pins s σ H x y v u Q I rx ry h
  obtain ⟨d, e, hd, he, sd, se, dd, q⟩ := h
  obtain ⟨as, r1⟩ := Dp.reads I d x v hd rx
  obtain ⟨bs, r2⟩ := Dp.reads I e y u he ry
  exact SeqAt.eq_plain r1 r2 sd se (by omega) ⟨.bl _, H, I, rfl, q⟩
theorem op_neP (hu : X.A.units + 64 < cLine) : OpR X (compareOp .NotEq) (rNeP X.K) := by
  intro pins s σ H x y v u Q I rx ry h
  obtain ⟨d, e, hd, he, sd, se, dd, q⟩ := h
  obtain ⟨as, r1⟩ := Dp.reads I d x v hd rx
  obtain ⟨bs, r2⟩ := Dp.reads I e y u he ry
  exact SeqAt.ne_plain r1 r2 sd se (by omega) ⟨.bl _, H, I, rfl, q⟩
end
end L2

set_option Elab.async false
set_option linter.all false
set_option maxRecDepth 100000
set_option maxHeartbeats 4000000
namespace Sm
open PySem PySem.Spec PyProof.Rows L2
/-! ### comprehensions whose items are told one by one, what stands stays -/
abbrev lcmQ (H : Hp) (D : Addr) (fv : Nat → V) (i : Nat) : VK := fun y H4 => ∃ acc, H4 D = some (.lst acc) ∧ acc.length < sizeLine ∧ Same H (upd H4 D (.lst (acc ++ [y]))) ∧ upd H4 D (.lst (acc ++ [y])) D = some (.lst ((List.range (i + 1)).map fv))
theorem lcm_step {H H' H4 : Hp} {D : Addr} {i n : Nat} {fv : Nat → V} (nD : H D = none) (s : Same H H') (hD : H' D = some (.lst ((List.range i).map fv))) (hi : i ≤ n) (ln : n ≤ 20000) (s4 : Same H' H4) :
    ∃ acc, H4 D = some (.lst acc) ∧ acc.length < sizeLine ∧ Same H (upd H4 D (.lst (acc ++ [fv i]))) ∧ upd H4 D (.lst (acc ++ [fv i])) D = some (.lst ((List.range (i + 1)).map fv)) := by
  refine ⟨_, s4 _ _ hD, ?_, fun b o e => ?_, ?_⟩
  · rw [List.length_map, List.length_range]
    exact Nat.lt_of_le_of_lt (show i ≤ 20000 by omega) (by decide)
  · rw [upd_ne (ne_of_none e nD)]
    exact s4 _ _ (s _ _ e)
  · rw [upd_same, List.range_succ, List.map_append]
    rfl
theorem lc_mT {K : PySem.W.Frag} {a : Addr} {xs : List V} {g : TG} {te : TE} {vs : List Nat} {σ : L2.St} {H : Hp} {D : Addr} {Qd : Hp → Prop} (fv : Nat → V) (ha : H a = some (.tup xs)) (nD : H D = none) (ln : xs.length ≤ 20000)
    (hs : ∀ i x H', xs[i]? = some x → Same H H' → ∀ R : VK, (∀ H4, Same H' H4 → R (fv i) H4) → g x (wipe σ vs) H' fun σ2 H2 => wipe σ2 vs = wipe σ vs ∧ te σ2 H2 R)
    (mono : ∀ x H' (A B : L2.St → Hp → Prop), (∀ σ2 H2, A σ2 H2 → B σ2 H2) → g x (wipe σ vs) H' A → g x (wipe σ vs) H' B)
    (hd : ∀ H', Same H H' → H' D = some (.lst ((List.range xs.length).map fv)) → Qd H') :
    ∃ W : Nat → Nat → Hp → Prop, (∃ m, W 0 m (upd H D (.lst []))) ∧ ∀ i m H, W i m H → ((Itt K a).stop i H ∧ Qd H) ∨ ((Itt K a).go i H ∧ ∃ Nx : Hp → Prop, (∀ H', Nx H' → ∃ m', m' < m ∧ W (i + 1) m' H') ∧ ∀ x H', (Itt K a).yld i H x H' → g x (wipe σ vs) H' fun σ2 H2 => wipe σ2 vs = wipe σ vs ∧ tYes σ2 H2 fun b H3 =>
        if b = true then te σ2 H3 fun y H4 => ∃ acc, H4 D = some (.lst acc) ∧ acc.length < sizeLine ∧ Nx (upd H4 D (.lst (acc ++ [y]))) else Nx H3) := by
  refine lc_tup (K := K) (a := a) (xs := xs) (fun i H' => Same H H' ∧ H' D = some (.lst ((List.range i).map fv))) ⟨same_upd nD, upd_same⟩ (fun i H' _ h => SqT.of (h.1 _ _ ha)) ?_ (fun H' h => hd H' h.1 h.2)
  rintro i x H' hx ⟨s, hD⟩
  have il : i < xs.length := (List.getElem?_eq_some_iff.mp hx).1
  refine mono x H' _ _ ?_ (hs i x H' hx s (lcmQ H D fv i) fun H4 s4 => lcm_step nD s hD (Nat.le_of_lt il) ln s4)
  rintro σ2 H2 ⟨e, h⟩
  refine ⟨e, ?_⟩
  unfold tYes
  exact iteT h
theorem lc_mL {K : PySem.W.Frag} {a : Addr} {xs : List V} {g : TG} {te : TE} {vs : List Nat} {σ : L2.St} {H : Hp} {D : Addr} {Qd : Hp → Prop} (fv : Nat → V) (ha : H a = some (.lst xs)) (nD : H D = none) (ln : xs.length ≤ 20000)
    (hs : ∀ i x H', xs[i]? = some x → Same H H' → ∀ R : VK, (∀ H4, Same H' H4 → R (fv i) H4) → g x (wipe σ vs) H' fun σ2 H2 => wipe σ2 vs = wipe σ vs ∧ te σ2 H2 R)
    (mono : ∀ x H' (A B : L2.St → Hp → Prop), (∀ σ2 H2, A σ2 H2 → B σ2 H2) → g x (wipe σ vs) H' A → g x (wipe σ vs) H' B)
    (hd : ∀ H', Same H H' → H' D = some (.lst ((List.range xs.length).map fv)) → Qd H') :
    ∃ W : Nat → Nat → Hp → Prop, (∃ m, W 0 m (upd H D (.lst []))) ∧ ∀ i m H, W i m H → ((Itl K a).stop i H ∧ Qd H) ∨ ((Itl K a).go i H ∧ ∃ Nx : Hp → Prop, (∀ H', Nx H' → ∃ m', m' < m ∧ W (i + 1) m' H') ∧ ∀ x H', (Itl K a).yld i H x H' → g x (wipe σ vs) H' fun σ2 H2 => wipe σ2 vs = wipe σ vs ∧ tYes σ2 H2 fun b H3 =>
        if b = true then te σ2 H3 fun y H4 => ∃ acc, H4 D = some (.lst acc) ∧ acc.length < sizeLine ∧ Nx (upd H4 D (.lst (acc ++ [y]))) else Nx H3) := by
  refine lc_list (K := K) (a := a) (xs := xs) (fun i H' => Same H H' ∧ H' D = some (.lst ((List.range i).map fv))) ⟨same_upd nD, upd_same⟩ (fun i H' _ h => SqL.of (h.1 _ _ ha)) ?_ (fun H' h => hd H' h.1 h.2)
  rintro i x H' hx ⟨s, hD⟩
  have il : i < xs.length := (List.getElem?_eq_some_iff.mp hx).1
  refine mono x H' _ _ ?_ (hs i x H' hx s (lcmQ H D fv i) fun H4 s4 => lcm_step nD s hD (Nat.le_of_lt il) ln s4)
  rintro σ2 H2 ⟨e, h⟩
  refine ⟨e, ?_⟩
  unfold tYes
  exact iteT h
theorem lc_mR {lo : Int} {n : Nat} {g : TG} {te : TE} {vs : List Nat} {σ : L2.St} {H : Hp} {D : Addr} {Qd : Hp → Prop} (fv : Nat → V) (nD : H D = none) (ln : n ≤ 20000)
    (hs : ∀ i H', i < n → Same H H' → ∀ R : VK, (∀ H4, Same H' H4 → R (fv i) H4) → g (.int (lo + i)) (wipe σ vs) H' fun σ2 H2 => wipe σ2 vs = wipe σ vs ∧ te σ2 H2 R)
    (mono : ∀ x H' (A B : L2.St → Hp → Prop), (∀ σ2 H2, A σ2 H2 → B σ2 H2) → g x (wipe σ vs) H' A → g x (wipe σ vs) H' B)
    (hd : ∀ H', Same H H' → H' D = some (.lst ((List.range n).map fv)) → Qd H') :
    ∃ W : Nat → Nat → Hp → Prop, (∃ m, W 0 m (upd H D (.lst []))) ∧ ∀ i m H, W i m H → ((Itr lo n).stop i H ∧ Qd H) ∨ ((Itr lo n).go i H ∧ ∃ Nx : Hp → Prop, (∀ H', Nx H' → ∃ m', m' < m ∧ W (i + 1) m' H') ∧ ∀ x H', (Itr lo n).yld i H x H' → g x (wipe σ vs) H' fun σ2 H2 => wipe σ2 vs = wipe σ vs ∧ tYes σ2 H2 fun b H3 =>
        if b = true then te σ2 H3 fun y H4 => ∃ acc, H4 D = some (.lst acc) ∧ acc.length < sizeLine ∧ Nx (upd H4 D (.lst (acc ++ [y]))) else Nx H3) := by
  refine lc_range (fun i H' => Same H H' ∧ H' D = some (.lst ((List.range i).map fv))) ⟨same_upd nD, upd_same⟩ ?_ (fun H' h => hd H' h.1 h.2)
  rintro i H' il ⟨s, hD⟩
  refine mono _ H' _ _ ?_ (hs i H' il s (lcmQ H D fv i) fun H4 s4 => lcm_step nD s hD (Nat.le_of_lt il) ln s4)
  rintro σ2 H2 ⟨e, h⟩
  refine ⟨e, ?_⟩
  unfold tYes
  exact iteT h
/-- one name -/
theorem gName_mono {j : Nat} {σ : L2.St} : ∀ (x : V) (H' : Hp) (A B : L2.St → Hp → Prop), (∀ σ2 H2, A σ2 H2 → B σ2 H2) → gName j x σ H' A → gName j x σ H' B := fun x H' A B h a => h _ _ a
end Sm

set_option Elab.async false
set_option linter.all false
set_option maxRecDepth 100000
set_option maxHeartbeats 4000000
namespace Sm
open PySem PySem.Spec PyProof.Rows L2
/-! ### comprehensions over zip of two tuples, over an enumerate, told item by item -/
theorem gTup2_mono {K : PySem.W.Frag} {p q : Nat} {σ : L2.St} : ∀ (x : V) (H' : Hp) (A B : L2.St → Hp → Prop), (∀ σ2 H2, A σ2 H2 → B σ2 H2) → gTup K 2 (gCons (gName p) (gCons (gName q) gNil)) x σ H' A → gTup K 2 (gCons (gName p) (gCons (gName q) gNil)) x σ H' B := by
  rintro x H' A B h ⟨a, xs, e, hq, hl, v, r, e2, v2, r2, e3, e4, z⟩
  exact ⟨a, xs, e, hq, hl, v, r, e2, v2, r2, e3, e4, h _ _ z⟩
theorem lc_mZ {K : PySem.W.Frag} {a b : Addr} {xs ys : List V} {n : Nat} {g : TG} {te : TE} {vs : List Nat} {σ : L2.St} {H : Hp} {D : Addr} {Qd : Hp → Prop} (fv : Nat → V) (ha : H a = some (.tup xs)) (hb : H b = some (.tup ys)) (l1 : xs.length = n) (l2 : ys.length = n) (nD : H D = none) (ln : n ≤ 20000)
    (hs : ∀ i x y T H', xs[i]? = some x → ys[i]? = some y → Same H H' → H' T = some (.tup [x, y]) → ∀ R : VK, (∀ H4, Same H' H4 → R (fv i) H4) → g (.ref T) (wipe σ vs) H' fun σ2 H2 => wipe σ2 vs = wipe σ vs ∧ te σ2 H2 R)
    (mono : ∀ x H' (A B : L2.St → Hp → Prop), (∀ σ2 H2, A σ2 H2 → B σ2 H2) → g x (wipe σ vs) H' A → g x (wipe σ vs) H' B)
    (hd : ∀ H', Same H H' → H' D = some (.lst ((List.range n).map fv)) → Qd H') :
    ∃ W : Nat → Nat → Hp → Prop, (∃ m, W 0 m (upd H D (.lst []))) ∧ ∀ i m H, W i m H → ((RZ.ItzT K a b).stop i H ∧ Qd H) ∨ ((RZ.ItzT K a b).go i H ∧ ∃ Nx : Hp → Prop, (∀ H', Nx H' → ∃ m', m' < m ∧ W (i + 1) m' H') ∧ ∀ x H', (RZ.ItzT K a b).yld i H x H' → g x (wipe σ vs) H' fun σ2 H2 => wipe σ2 vs = wipe σ vs ∧ tYes σ2 H2 fun b H3 =>
        if b = true then te σ2 H3 fun y H4 => ∃ acc, H4 D = some (.lst acc) ∧ acc.length < sizeLine ∧ Nx (upd H4 D (.lst (acc ++ [y]))) else Nx H3) := by
  refine lc_it (walk_zipT (K := K) (a := a) (b := b) l1 l2) (fun i H' => Same H H' ∧ H' D = some (.lst ((List.range i).map fv))) ⟨same_upd nD, upd_same⟩ (fun i H' _ h => ⟨SqT.of (h.1 _ _ ha), SqT.of (h.1 _ _ hb)⟩) ?_ (fun H' h => hd H' h.1 h.2)
  rintro i x H1 H1' il ⟨s, hD⟩ ⟨T, x1, y1, rfl, hT, rfl, hx, hy⟩
  have sT := same_upd (o := .tup [x1, y1]) hT
  refine mono _ _ _ _ ?_ (hs i x1 y1 T _ hx hy (s.trans sT) upd_same (lcmQ H D fv i) fun H4 s4 => lcm_step nD (s.trans sT) (sT _ _ hD) (Nat.le_of_lt il) ln s4)
  rintro σ2 H2 ⟨e, h⟩
  refine ⟨e, ?_⟩
  unfold tYes
  exact iteT h
end Sm

set_option maxHeartbeats 4000000
namespace Sm
/-! offers, boards, and what leads where -/
structure Of where
  a : Nat
  x : Int
  b : Nat
  y : Int
def Of.ns (o : Of) : List Int := [(o.a : Int), o.x, (o.b : Int), o.y]
structure OfOk (k : Nat) (o : Of) : Prop where
  a : o.a < k
  b : o.b < k
  ne : o.a ≠ o.b
  x0 : 1 ≤ o.x
  x1 : o.x ≤ 30
  y0 : 0 ≤ o.y
  y1 : o.y ≤ 30
def Edge (L : List Of) (a b : Nat) : Prop := ∃ o ∈ L, o.a = a ∧ o.b = b ∧ 0 < o.y
def Rn (L : List Of) (s : Nat) : Nat → Nat → Prop
  | 0, c => c = s
  | n + 1, c => Rn L s n c ∨ ∃ b, Rn L s n b ∧ Edge L b c
def Lead (L : List Of) (s c : Nat) : Prop := ∃ n, Rn L s n c
section
variable {L : List Of} {s c d k : Nat}
theorem Rn.up {n m : Nat} (h : n ≤ m) (r : Rn L s n c) : Rn L s m c := by
  induction m with
  | zero => rw [show n = 0 by omega] at r; exact r
  | succ m ih =>
    by_cases q : n = m + 1
    · rw [← q]; exact r
    · exact .inl (ih (by omega))
theorem Lead.self : Lead L s s := ⟨0, rfl⟩
theorem Lead.step (h : Lead L s c) (e : Edge L c d) : Lead L s d := by
  obtain ⟨n, r⟩ := h
  exact ⟨n + 1, .inr ⟨c, r, e⟩⟩
theorem Lead.closed {S : Nat → Prop} (h0 : S s) (hs : ∀ a b, S a → Edge L a b → S b) (h : Lead L s c) : S c := by
  obtain ⟨n, r⟩ := h
  induction n generalizing c with
  | zero => rw [show c = s from r]; exact h0
  | succ n ih =>
    rcases r with r | ⟨b, r, e⟩
    · exact ih r
    · exact hs _ _ (ih r) e
theorem Lead.trans (h1 : Lead L s c) (h2 : Lead L c d) : Lead L s d := h2.closed (S := fun x => Lead L s x) h1 fun _ _ h e => h.step e
theorem filter_less {α : Type} {p q : α → Bool} : ∀ {l : List α}, (∀ x ∈ l, p x = true → q x = true) → (∃ x ∈ l, q x = true ∧ p x = false) → (l.filter p).length + 1 ≤ (l.filter q).length
  | [], _, h => by obtain ⟨_, h, _⟩ := h; cases h
  | a :: l, h, ⟨x, hx, h1, h2⟩ => by
    have le : (l.filter p).length ≤ (l.filter q).length := by
      clear hx h1 h2
      induction l with
      | nil => exact Nat.le_refl _
      | cons b l ih =>
        have i := ih fun x hx => by
          rcases List.mem_cons.mp hx with e | e
          · exact h x (by rw [e]; exact List.mem_cons_self)
          · exact h x (List.mem_cons_of_mem _ (List.mem_cons_of_mem _ e))
        have hb := h b (List.mem_cons_of_mem _ List.mem_cons_self)
        rw [List.filter_cons, List.filter_cons]
        cases e : p b with
        | true => rw [if_pos rfl, if_pos (hb e)]; simp; exact i
        | false =>
          rw [if_neg Bool.false_ne_true]
          split
          · simp; omega
          · exact i
    rw [List.filter_cons, List.filter_cons]
    rcases List.mem_cons.mp hx with e | e
    · subst e
      rw [h1, h2, if_neg Bool.false_ne_true, if_pos rfl]
      simp
      exact le
    · have i := filter_less (fun x hx => h x (List.mem_cons_of_mem _ hx)) ⟨x, e, h1, h2⟩
      have ha := h a List.mem_cons_self
      cases e : p a with
      | true => rw [if_pos rfl, if_pos (ha e)]; simp; omega
      | false =>
        rw [if_neg Bool.false_ne_true]
        split
        · simp; omega
        · exact i
noncomputable def cnt (L : List Of) (s k n : Nat) : Nat := ((List.range k).filter fun c => @decide (Rn L s n c) (Classical.propDecidable _)).length
theorem cdec {p : Prop} : (@decide p (Classical.propDecidable _)) = true ↔ p := @decide_eq_true_iff p (Classical.propDecidable _)
theorem cdecf {p : Prop} : (@decide p (Classical.propDecidable _)) = false ↔ ¬ p := @decide_eq_false_iff_not p (Classical.propDecidable _)
theorem Rn.lt {n : Nat} (hL : ∀ o ∈ L, OfOk k o) (hs : s < k) (r : Rn L s n c) : c < k := by
  induction n generalizing c with
  | zero => rw [show c = s from r]; exact hs
  | succ n ih =>
    rcases r with r | ⟨b, r, o, ho, _, e, _⟩
    · exact ih r
    · rw [← e]; exact (hL o ho).b
theorem Lead.lt (hL : ∀ o ∈ L, OfOk k o) (hs : s < k) (h : Lead L s c) : c < k := by
  obtain ⟨n, r⟩ := h
  exact r.lt hL hs
theorem Lead.to (hL : ∀ o ∈ L, OfOk k o) (hs : s < k) (h : Lead L s c) : Rn L s k c := by
  have key : ∀ n, (∃ m, m ≤ n ∧ ∀ c, Rn L s (m + 1) c → Rn L s m c) ∨ n + 1 ≤ cnt L s k n := by
    intro n
    induction n with
    | zero =>
      right
      have : 0 < cnt L s k 0 := List.length_pos_of_mem (a := s) (List.mem_filter.mpr ⟨List.mem_range.mpr hs, cdec.mpr rfl⟩)
      omega
    | succ n ih =>
      rcases ih with ⟨m, h1, h2⟩ | ih
      · exact .inl ⟨m, by omega, h2⟩
      · rcases Classical.em (∀ c, Rn L s (n + 1) c → Rn L s n c) with q | q
        · exact .inl ⟨n, by omega, q⟩
        · right
          obtain ⟨c, hc⟩ := Classical.not_forall.mp q
          obtain ⟨h1, h2⟩ := Classical.not_imp.mp hc
          have := filter_less (l := List.range k) (p := fun c => @decide (Rn L s n c) (Classical.propDecidable _)) (q := fun c => @decide (Rn L s (n + 1) c) (Classical.propDecidable _))
            (fun x _ hx => cdec.mpr (.inl (cdec.mp hx))) ⟨c, List.mem_range.mpr (h1.lt hL hs), cdec.mpr h1, cdecf.mpr h2⟩
          unfold cnt at ih ⊢
          omega
  rcases key k with ⟨m, h1, h2⟩ | q
  · refine Rn.up h1 ?_
    exact h.closed (S := fun x => Rn L s m x) (Rn.up (Nat.zero_le _) rfl) fun a b ha e => h2 b (.inr ⟨a, ha, e⟩)
  · have : cnt L s k k ≤ k := by
      unfold cnt
      exact Nat.le_trans (List.length_filter_le ..) (by rw [List.length_range]; exact Nat.le_refl _)
    omega
end
/-! sorted lists -/
theorem srt_eq {α : Type} {lt : α → α → Prop} (irr : ∀ x, ¬ lt x x) (tr : ∀ x y z, lt x y → lt y z → lt x z) : ∀ {l m : List α}, l.Pairwise lt → m.Pairwise lt → (∀ x, x ∈ l ↔ x ∈ m) → l = m
  | [], [], _, _, _ => rfl
  | [], b :: m, _, _, h => by have := (h b).mpr List.mem_cons_self; cases this
  | a :: l, [], _, _, h => by have := (h a).mp List.mem_cons_self; cases this
  | a :: l, b :: m, h1, h2, h => by
    obtain ⟨p1, q1⟩ := List.pairwise_cons.mp h1
    obtain ⟨p2, q2⟩ := List.pairwise_cons.mp h2
    have e : a = b := by
      rcases List.mem_cons.mp ((h a).mp List.mem_cons_self) with e | e
      · exact e
      · rcases List.mem_cons.mp ((h b).mpr List.mem_cons_self) with f | f
        · exact f.symm
        · exact (irr a (tr _ _ _ (p1 b f) (p2 a e))).elim
    subst e
    rw [srt_eq irr tr q1 q2 fun x => ⟨fun hx => ?_, fun hx => ?_⟩]
    · rcases List.mem_cons.mp ((h x).mp (List.mem_cons_of_mem _ hx)) with e | e
      · subst e; exact (irr _ (p1 _ hx)).elim
      · exact e
    · rcases List.mem_cons.mp ((h x).mpr (List.mem_cons_of_mem _ hx)) with e | e
      · subst e; exact (irr _ (p2 _ hx)).elim
      · exact e
theorem range_lt (k : Nat) : (List.range k).Pairwise (· < ·) := List.pairwise_lt_range
noncomputable def leadsL (L : List Of) (k s : Nat) : List Nat := (List.range k).filter fun c => @decide (Lead L s c) (Classical.propDecidable _)
noncomputable def backs (L : List Of) (k s : Nat) : List Nat := (List.range k).filter fun c => @decide (Lead L s c ∧ Lead L c s) (Classical.propDecidable _)
theorem mem_leads {L : List Of} {k s c : Nat} : c ∈ leadsL L k s ↔ c < k ∧ Lead L s c := by
  unfold leadsL
  rw [List.mem_filter, List.mem_range, cdec]
theorem mem_backs {L : List Of} {k s c : Nat} : c ∈ backs L k s ↔ c < k ∧ Lead L s c ∧ Lead L c s := by
  unfold backs
  rw [List.mem_filter, List.mem_range, cdec]
theorem backs_same {L : List Of} {k s c : Nat} (h : c ∈ backs L k s) : backs L k c = backs L k s := by
  obtain ⟨h0, h1, h2⟩ := mem_backs.mp h
  unfold backs
  refine List.filter_congr fun x _ => ?_
  have : (Lead L c x ∧ Lead L x c) ↔ (Lead L s x ∧ Lead L x s) := ⟨fun ⟨a, b⟩ => ⟨h1.trans a, b.trans h2⟩, fun ⟨a, b⟩ => ⟨h2.trans a, b.trans h1⟩⟩
  rw [Bool.eq_iff_iff, cdec, cdec]
  exact this
theorem backs_self {L : List Of} {k s : Nat} (h : s < k) : s ∈ backs L k s := mem_backs.mpr ⟨h, .self, .self⟩
theorem leads_lt (L : List Of) (k s : Nat) : (leadsL L k s).Pairwise (· < ·) := (range_lt k).filter _
theorem backs_lt (L : List Of) (k s : Nat) : (backs L k s).Pairwise (· < ·) := (range_lt k).filter _
theorem backs_len (L : List Of) (k s : Nat) : (backs L k s).length ≤ k := Nat.le_trans (List.length_filter_le ..) (by rw [List.length_range]; exact Nat.le_refl _)
theorem leads_len (L : List Of) (k s : Nat) : (leadsL L k s).length ≤ k := Nat.le_trans (List.length_filter_le ..) (by rw [List.length_range]; exact Nat.le_refl _)
theorem backs_filter (L : List Of) (k s : Nat) : (leadsL L k s).filter (fun c => @decide (Lead L c s) (Classical.propDecidable _)) = backs L k s := by
  unfold leadsL backs
  rw [List.filter_filter]
  refine List.filter_congr fun x _ => ?_
  rw [Bool.eq_iff_iff, Bool.and_eq_true, cdec, cdec, cdec]
  exact ⟨fun ⟨a, b⟩ => ⟨b, a⟩, fun ⟨a, b⟩ => ⟨b, a⟩⟩
theorem nd_len {α : Type} [DecidableEq α] : ∀ {l m : List α}, l.Nodup → (∀ x, x ∈ l → x ∈ m) → l.length ≤ m.length
  | [], _, _, _ => Nat.zero_le _
  | a :: l, m, hn, hs => by
    have hm : a ∈ m := hs a List.mem_cons_self
    obtain ⟨n1, n2⟩ := List.nodup_cons.mp hn
    have ih := nd_len (m := m.erase a) n2 fun x hx => (List.mem_erase_of_ne (by rintro rfl; exact n1 hx)).mpr (hs x (List.mem_cons_of_mem _ hx))
    rw [List.length_erase_of_mem hm] at ih
    have := List.length_pos_of_mem hm
    simp only [List.length_cons]
    omega
/-- numbers as integers -/
abbrev ni (l : List Nat) : List Int := l.map fun (c : Nat) => (c : Int)
theorem mem_ni {l : List Nat} {c : Nat} : (c : Int) ∈ ni l ↔ c ∈ l := by
  constructor
  · intro h
    obtain ⟨d, hd, e⟩ := List.mem_map.mp h
    rw [← Int.ofNat.inj e]
    exact hd
  · intro h
    exact List.mem_map.mpr ⟨c, h, rfl⟩
theorem ni_sorted {l : List Nat} (h : l.Pairwise (· < ·)) : (ni l).Pairwise (· < ·) := by
  rw [List.pairwise_map]
  exact h.imp fun q => Int.ofNat_lt.mpr q
theorem ni_nodup {l : List Nat} (h : l.Nodup) : (ni l).Nodup := by
  unfold List.Nodup at h ⊢
  rw [List.pairwise_map]
  exact h.imp fun q e => q (Int.ofNat.inj e)
/-- a sorted arrangement of given numbers -/
theorem ni_sort {F l : List Nat} {ys : List Int} (pm : ys.Perm (ni F)) (le : ys.Pairwise (· ≤ ·)) (nd : F.Nodup) (up : l.Pairwise (· < ·)) (h : ∀ c, c ∈ F ↔ c ∈ l) : ys = ni l := by
  have ny : ys.Nodup := (pm.nodup_iff).mpr (ni_nodup nd)
  have lt : ys.Pairwise (· < ·) := by
    have both := List.Pairwise.and le ny
    exact both.imp fun ⟨a, b⟩ => by omega
  refine srt_eq (lt := fun a b : Int => a < b) (fun x => Int.lt_irrefl x) (fun x y z => Int.lt_trans) lt (ni_sorted up) fun x => ?_
  rw [pm.mem_iff]
  constructor
  · intro hx
    obtain ⟨c, hc, rfl⟩ := List.mem_map.mp hx
    exact mem_ni.mpr ((h c).mp hc)
  · intro hx
    obtain ⟨c, hc, rfl⟩ := List.mem_map.mp hx
    exact mem_ni.mpr ((h c).mpr hc)
end Sm

set_option maxHeartbeats 4000000
namespace Sm
/-! ways: what they need and change -/
structure Tl where
  n : Nat → Int
  c : Nat → Int
def Tl.zero : Tl := ⟨fun _ => 0, fun _ => 0⟩
def Tl.seq (t u : Tl) : Tl := ⟨fun k => max (t.n k) (u.n k - t.c k), fun k => t.c k + u.c k⟩
def Tl.rnd (t : Tl) (m : Int) : Tl := ⟨fun k => max (t.n k) (t.n k - (m - 1) * t.c k), fun k => m * t.c k⟩
def n1 (o : Of) (k : Nat) : Int := if k = o.a then o.x else 0
def c1 (o : Of) (k : Nat) : Int := if k = o.b then o.y else if k = o.a then -o.x else 0
def runT (o : Of) (m : Int) : Tl := ⟨fun k => if k = o.a then m * o.x else 0, fun k => if k = o.b then m * o.y else if k = o.a then -m * o.x else 0⟩
def ofI (L : List Of) (i : Nat) : Of := L.getD i ⟨0, 0, 0, 0⟩
theorem ofI_at {L : List Of} {i : Nat} {o : Of} (h : L[i]? = some o) : ofI L i = o := by
  unfold ofI
  rw [List.getD_eq_getElem?_getD, h]
  rfl
theorem ofI_mem {L : List Of} {i : Nat} (h : i < L.length) : ofI L i ∈ L := by
  unfold ofI
  rw [List.getD_eq_getElem?_getD, List.getElem?_eq_getElem h]
  exact List.getElem_mem h
inductive St where
  | run (i : Nat) (m : Int)
  | rnd (rs : List (Nat × Int)) (m : Int)
def runsT (L : List Of) (rs : List (Nat × Int)) : Tl := rs.foldl (fun t r => t.seq (runT (ofI L r.1) r.2)) Tl.zero
def stT (L : List Of) : St → Tl
  | .run i m => runT (ofI L i) m
  | .rnd rs m => (runsT L rs).rnd m
def wayT (L : List Of) (ss : List St) : Tl := ss.foldl (fun t s => t.seq (stT L s)) Tl.zero
/-- a list of runs as a way -/
def asWay (rs : List (Nat × Int)) : List St := rs.map fun r => .run r.1 r.2
theorem asWay_T (L : List Of) (rs : List (Nat × Int)) : wayT L (asWay rs) = runsT L rs := by
  unfold wayT asWay runsT
  rw [List.foldl_map]
  rfl
theorem wayT_take {L : List Of} {ss : List St} {j : Nat} {s : St} (h : ss[j]? = some s) : wayT L (ss.take (j + 1)) = (wayT L (ss.take j)).seq (stT L s) := by
  unfold wayT
  rw [List.take_add_one, h, List.foldl_append]
  rfl
/-! uses, one after another -/
def bn : List Of → Nat → Int
  | [], _ => 0
  | o :: U, k => max (n1 o k) (bn U k - c1 o k)
def bc : List Of → Nat → Int
  | [], _ => 0
  | o :: U, k => c1 o k + bc U k
theorem bn_pos (U : List Of) (h : ∀ o ∈ U, 0 ≤ o.x) (k : Nat) : 0 ≤ bn U k := by
  cases U with
  | nil => exact Int.le_refl _
  | cons o U =>
    have := h o List.mem_cons_self
    unfold bn n1
    split <;> omega
theorem bc_app (U W : List Of) (k : Nat) : bc (U ++ W) k = bc U k + bc W k := by
  induction U with
  | nil => show bc W k = 0 + bc W k; omega
  | cons o U ih =>
    show c1 o k + bc (U ++ W) k = c1 o k + bc U k + bc W k
    omega
theorem bn_app {U W : List Of} (hW : ∀ o ∈ W, 0 ≤ o.x) (k : Nat) : bn (U ++ W) k = max (bn U k) (bn W k - bc U k) := by
  induction U with
  | nil =>
    have := bn_pos W hW k
    show bn W k = max 0 (bn W k - 0)
    omega
  | cons o U ih =>
    show max (n1 o k) (bn (U ++ W) k - c1 o k) = max (max (n1 o k) (bn U k - c1 o k)) (bn W k - (c1 o k + bc U k))
    rw [ih]
    omega
def reps (m : Nat) (U : List Of) : List Of := (List.replicate m U).flatten
theorem reps_x {m : Nat} {U : List Of} (h : ∀ o ∈ U, 0 ≤ o.x) : ∀ o ∈ reps m U, 0 ≤ o.x := fun o ho => by
  obtain ⟨l, hl, hl2⟩ := List.mem_flatten.mp ho
  rw [List.eq_of_mem_replicate hl] at hl2
  exact h o hl2
theorem reps_succ (m : Nat) (U : List Of) : reps (m + 1) U = U ++ reps m U := by
  unfold reps
  rw [List.replicate_succ, List.flatten_cons]
theorem bc_reps (m : Nat) (U : List Of) (k : Nat) : bc (reps m U) k = (m : Int) * bc U k := by
  induction m with
  | zero => simp [reps, bc]
  | succ m ih =>
    rw [reps_succ, bc_app, ih, Int.natCast_add, Int.add_mul]
    simp
    omega
theorem bn_reps {U : List Of} (h : ∀ o ∈ U, 0 ≤ o.x) (m : Nat) (k : Nat) : bn (reps (m + 1) U) k = max (bn U k) (bn U k - (m : Int) * bc U k) := by
  induction m with
  | zero =>
    rw [reps_succ]
    show bn (U ++ reps 0 U) k = _
    rw [show reps 0 U = [] from rfl, List.append_nil]
    simp
  | succ m ih =>
    rw [reps_succ, bn_app (reps_x h), ih]
    have p := bn_pos U h k
    have e : ((m + 1 : Nat) : Int) * bc U k = (m : Int) * bc U k + bc U k := by
      rw [Int.natCast_add, Int.add_mul]
      simp
    rw [e]
    rcases Int.le_total 0 (bc U k) with q | q
    · have : 0 ≤ (m : Int) * bc U k := Int.mul_nonneg (by omega) q
      omega
    · have : (m : Int) * bc U k ≤ 0 := Int.mul_nonpos_of_nonneg_of_nonpos (by omega) q
      omega
/-- what a list of uses needs and changes -/
def useT (U : List Of) : Tl := ⟨bn U, bc U⟩
theorem useT_app {U W : List Of} (hW : ∀ o ∈ W, 0 ≤ o.x) : useT (U ++ W) = (useT U).seq (useT W) := by
  unfold useT Tl.seq
  congr 1
  · exact funext fun k => bn_app hW k
  · exact funext fun k => bc_app U W k
theorem useT_reps {U : List Of} (h : ∀ o ∈ U, 0 ≤ o.x) {m : Nat} (m1 : 1 ≤ m) : useT (reps m U) = (useT U).rnd (m : Int) := by
  obtain ⟨j, rfl⟩ : ∃ j, m = j + 1 := ⟨m - 1, by omega⟩
  unfold useT Tl.rnd
  congr 1
  · refine funext fun k => ?_
    rw [bn_reps h, show ((j + 1 : Nat) : Int) - 1 = (j : Int) by omega]
  · exact funext fun k => bc_reps (j + 1) U k
theorem useT_run {o : Of} (x0 : 0 ≤ o.x) (y0 : 0 ≤ o.y) (ne : o.a ≠ o.b) {m : Nat} (m1 : 1 ≤ m) : useT (reps m [o]) = runT o (m : Int) := by
  rw [useT_reps (fun o' h => by rw [List.mem_singleton.mp h]; exact x0) m1]
  unfold useT Tl.rnd runT
  congr 1
  · refine funext fun k => ?_
    show max (max (n1 o k) (0 - c1 o k)) (max (n1 o k) (0 - c1 o k) - ((m : Int) - 1) * (c1 o k + 0)) = if k = o.a then (m : Int) * o.x else 0
    unfold n1 c1
    by_cases ha : k = o.a
    · have hb : k ≠ o.b := by rw [ha]; exact ne
      rw [if_pos ha, if_neg hb, if_pos ha, if_pos ha, Int.add_zero, Int.mul_neg, Int.sub_mul, Int.one_mul]
      have : o.x ≤ (m : Int) * o.x := by
        have := Int.mul_le_mul_of_nonneg_right (show (1 : Int) ≤ (m : Int) by omega) x0
        omega
      omega
    · by_cases hb : k = o.b
      · rw [if_neg ha, if_pos hb, if_neg ha, Int.add_zero]
        have : 0 ≤ ((m : Int) - 1) * o.y := Int.mul_nonneg (by omega) y0
        omega
      · rw [if_neg ha, if_neg hb, if_neg ha, if_neg ha]
        simp
  · refine funext fun k => ?_
    show (m : Int) * (c1 o k + 0) = if k = o.b then (m : Int) * o.y else if k = o.a then -(m : Int) * o.x else 0
    unfold c1
    rw [Int.add_zero]
    by_cases hb : k = o.b
    · rw [if_pos hb, if_pos hb]
    · rw [if_neg hb, if_neg hb]
      by_cases ha : k = o.a
      · rw [if_pos ha, if_pos ha, Int.mul_neg, Int.neg_mul]
      · rw [if_neg ha, if_neg ha, Int.mul_zero]
/-! the uses of a way -/
def runI (r : Nat × Int) : List Nat := List.replicate r.2.toNat r.1
def runsI (rs : List (Nat × Int)) : List Nat := rs.flatMap runI
def stI : St → List Nat
  | .run i m => runI (i, m)
  | .rnd rs m => (List.replicate m.toNat (runsI rs)).flatten
def wayI (ss : List St) : List Nat := ss.flatMap stI
def us (L : List Of) (I : List Nat) : List Of := I.map (ofI L)
/-- a run, a step, within the board -/
def RunOk (L : List Of) (r : Nat × Int) : Prop := r.1 < L.length ∧ 1 ≤ r.2
def StOk (L : List Of) : St → Prop
  | .run i m => RunOk L (i, m)
  | .rnd rs m => (∀ r ∈ rs, RunOk L r) ∧ 1 ≤ m
section
variable {k : Nat} {L : List Of} (ok : ∀ o ∈ L, OfOk k o)
include ok
theorem us_x {I : List Nat} (h : ∀ i ∈ I, i < L.length) : ∀ o ∈ us L I, 0 ≤ o.x := fun o ho => by
  obtain ⟨i, hi, rfl⟩ := List.mem_map.mp ho
  have := (ok _ (ofI_mem (h i hi))).x0
  omega
theorem us_run {r : Nat × Int} (h : RunOk L r) : useT (us L (runI r)) = runT (ofI L r.1) r.2 ∧ ∀ i ∈ runI r, i < L.length := by
  have o := ok _ (ofI_mem h.1)
  have x0 := o.x0
  have m1 := h.2
  refine ⟨?_, fun i hi => by rw [List.eq_of_mem_replicate hi]; exact h.1⟩
  have e : us L (runI r) = reps r.2.toNat [ofI L r.1] := by
    unfold us runI reps
    rw [List.map_replicate, List.flatten_replicate_singleton]
  rw [e, useT_run (by omega) o.y0 o.ne (show 1 ≤ r.2.toNat by omega), Int.toNat_of_nonneg (by omega)]
theorem us_runs : ∀ {rs : List (Nat × Int)}, (∀ r ∈ rs, RunOk L r) → useT (us L (runsI rs)) = runsT L rs ∧ ∀ i ∈ runsI rs, i < L.length := by
  suffices h : ∀ (rs : List (Nat × Int)) (I : List Nat) (t : Tl), (∀ r ∈ rs, RunOk L r) → useT (us L I) = t → (∀ i ∈ I, i < L.length) → useT (us L (I ++ runsI rs)) = rs.foldl (fun t r => t.seq (runT (ofI L r.1) r.2)) t ∧ ∀ i ∈ I ++ runsI rs, i < L.length by
    intro rs hr
    exact h rs [] Tl.zero hr rfl fun i hi => nomatch hi
  intro rs
  induction rs with
  | nil =>
    intro I t _ e hI
    refine ⟨?_, fun i hi => ?_⟩
    · show useT (us L (I ++ [])) = t
      rw [List.append_nil]
      exact e
    · rw [show runsI [] = [] from rfl, List.append_nil] at hi
      exact hI i hi
  | cons r rs ih =>
    intro I t hr e hI
    obtain ⟨e1, h1⟩ := us_run ok (hr r List.mem_cons_self)
    have step := ih (I ++ runI r) (t.seq (runT (ofI L r.1) r.2)) (fun r' h => hr r' (List.mem_cons_of_mem _ h)) (by
      rw [show us L (I ++ runI r) = us L I ++ us L (runI r) from List.map_append, useT_app (us_x ok h1), e, e1]) (fun i hi => by
      rcases List.mem_append.mp hi with hi | hi
      · exact hI i hi
      · exact h1 i hi)
    rw [List.append_assoc] at step
    exact step
theorem us_st {s : St} (h : StOk L s) : useT (us L (stI s)) = stT L s ∧ ∀ i ∈ stI s, i < L.length := by
  match s, h with
  | .run i m, h => exact us_run ok h
  | .rnd rs m, ⟨h, m1⟩ =>
    obtain ⟨e, hi⟩ := us_runs ok h
    refine ⟨?_, fun i hi' => ?_⟩
    · have e2 : us L (stI (.rnd rs m)) = reps m.toNat (us L (runsI rs)) := by
        show ((List.replicate m.toNat (runsI rs)).flatten).map (ofI L) = _
        rw [List.map_flatten, List.map_replicate]
        rfl
      rw [e2, useT_reps (us_x ok hi) (show 1 ≤ m.toNat by omega), e, Int.toNat_of_nonneg (by omega)]
      rfl
    · obtain ⟨l, hl, hl2⟩ := List.mem_flatten.mp hi'
      rw [List.eq_of_mem_replicate hl] at hl2
      exact hi i hl2
theorem us_way : ∀ {ss : List St}, (∀ s ∈ ss, StOk L s) → useT (us L (wayI ss)) = wayT L ss ∧ ∀ i ∈ wayI ss, i < L.length := by
  suffices h : ∀ (ss : List St) (I : List Nat) (t : Tl), (∀ s ∈ ss, StOk L s) → useT (us L I) = t → (∀ i ∈ I, i < L.length) → useT (us L (I ++ wayI ss)) = ss.foldl (fun t s => t.seq (stT L s)) t ∧ ∀ i ∈ I ++ wayI ss, i < L.length by
    intro ss hr
    exact h ss [] Tl.zero hr rfl fun i hi => nomatch hi
  intro ss
  induction ss with
  | nil =>
    intro I t _ e hI
    refine ⟨?_, fun i hi => ?_⟩
    · show useT (us L (I ++ [])) = t
      rw [List.append_nil]
      exact e
    · rw [show wayI [] = [] from rfl, List.append_nil] at hi
      exact hI i hi
  | cons s ss ih =>
    intro I t hr e hI
    obtain ⟨e1, h1⟩ := us_st ok (hr s List.mem_cons_self)
    have step := ih (I ++ stI s) (t.seq (stT L s)) (fun r' h => hr r' (List.mem_cons_of_mem _ h)) (by
      rw [show us L (I ++ stI s) = us L I ++ us L (stI s) from List.map_append, useT_app (us_x ok h1), e, e1]) (fun i hi => by
      rcases List.mem_append.mp hi with hi | hi
      · exact hI i hi
      · exact h1 i hi)
    rw [List.append_assoc] at step
    exact step
end
/-- amounts of the kinds as a list -/
def vec (k : Nat) (f : Nat → Int) : List Int := (List.range k).map f
theorem vec_len (k : Nat) (f : Nat → Int) : (vec k f).length = k := by
  unfold vec
  rw [List.length_map, List.length_range]
theorem vec_get {k i : Nat} {f : Nat → Int} (h : i < k) : (vec k f)[i]? = some (f i) := by
  unfold vec
  rw [List.getElem?_map, List.getElem?_range h]
  rfl
theorem vec_set {k i : Nat} {f g : Nat → Int} {v : Int} (h : g i = v) (hg : ∀ j, j ≠ i → g j = f j) : (vec k f).set i v = vec k g := by
  refine List.ext_getElem? fun j => ?_
  rw [List.getElem?_set]
  by_cases e : i = j
  · subst e
    rw [if_pos rfl]
    by_cases l : i < k
    · rw [vec_len, if_pos l, vec_get l, h]
    · rw [vec_len, if_neg l, List.getElem?_eq_none (by rw [vec_len]; omega)]
  · rw [if_neg e]
    by_cases l : j < k
    · rw [vec_get l, vec_get l, hg j (Ne.symm e)]
    · rw [List.getElem?_eq_none (by rw [vec_len]; omega), List.getElem?_eq_none (by rw [vec_len]; omega)]
theorem vec_rep (k : Nat) : List.replicate k (0 : Int) = vec k fun _ => 0 := by
  refine List.ext_getElem? fun j => ?_
  by_cases l : j < k
  · rw [vec_get l, List.getElem?_replicate, if_pos l]
  · rw [List.getElem?_eq_none (by rw [List.length_replicate]; omega), List.getElem?_eq_none (by rw [vec_len]; omega)]
theorem vec_succ (k : Nat) (f : Nat → Int) : vec (k + 1) f = vec k f ++ [f k] := by
  unfold vec
  rw [List.range_succ, List.map_append]
  rfl
end Sm

set_option Elab.async false
set_option linter.all false
set_option maxRecDepth 100000
set_option maxHeartbeats 4000000
namespace Sm
open PySem PySem.Spec PyProof.Rows L2
theorem ints_lay : ∀ t : List Int, PyData.canLayAll0 (t.map PyData.int) = true
  | [] => rfl
  | i :: t => by simp [PyData.canLayAll0, PyData.canLay0, ints_lay t]
theorem depth_int : ∀ t : List Int, PyData.depthAll (t.map PyData.int) ≤ 1
  | [] => by simp [PyData.depthAll]
  | i :: t => by
    have := depth_int t
    simp only [List.map_cons, PyData.depthAll, PyData.depth]
    omega
theorem lst_shaped (t : List Int) : SeqAt.shaped (.list (t.map PyData.int)) = true := by
  have d := depth_int t
  have d2 : PyData.depth (.list (t.map PyData.int)) ≤ 64 := by
    simp only [PyData.depth]
    omega
  unfold SeqAt.shaped
  rw [show PyData.canLay0 (.list (t.map PyData.int)) = true by simp only [PyData.canLay0, ints_lay], decide_eq_true d2]
  rfl
theorem tup_shaped (t : List Int) : SeqAt.shaped (.tuple (t.map PyData.int)) = true := by
  have d := depth_int t
  have d2 : PyData.depth (.tuple (t.map PyData.int)) ≤ 64 := by
    simp only [PyData.depth]
    omega
  unfold SeqAt.shaped
  rw [show PyData.canLay0 (.tuple (t.map PyData.int)) = true by simp only [PyData.canLay0, ints_lay], decide_eq_true d2]
  rfl
theorem eqv_nil (l : List Int) : PyData.eqv (.list (l.map PyData.int)) (.list []) = decide (l = []) := by
  cases l with
  | nil => rfl
  | cons a l => simp [PyData.eqv, PyData.eqvAll]
theorem no_part {σ : L2.St} {H : Hp} {Q : Option Int → Hp → Prop} (h : Q none H) : tNoPart σ H Q := h
theorem pickI (L : List Int) {r : Int} (h0 : 0 ≤ r) (h1 : r < (L.length : Int)) : ∃ z ∈ L, (L.map V.int)[r.toNat]? = some (.int z) := by
  have q : r.toNat < L.length := by omega
  refine ⟨L[r.toNat], List.getElem_mem q, ?_⟩
  rw [List.getElem?_map, List.getElem?_eq_getElem q]
  rfl
theorem cut_from {xs : List V} {n : Nat} : cutV xs (some (n : Int)) none = xs.drop n := by
  unfold cutV
  rw [HT.sIx_none, HT.sIx_nat]
  rcases Nat.le_total n xs.length with h | h
  · rw [Nat.min_eq_left h]
    exact List.take_of_length_le (by rw [List.length_drop]; omega)
  · rw [Nat.min_eq_right h, List.drop_length, List.drop_eq_nil_of_le h, List.take_nil]
theorem eqv_selfT (t : List Int) : PyData.eqv (.tuple (t.map PyData.int)) (.tuple (t.map PyData.int)) = true := SeqAt.eqv_refl _ (SeqAt.canLay_of_shaped (tup_shaped t))
theorem dp_tup {K : PySem.W.Frag} {H : Hp} {q : Addr} {t : List Int} (h : H q = some (.tup (t.map V.int))) : Dp K H (.ref q) (.tuple (t.map PyData.int)) := .tup (SqT.of h) (dp_ints t)
theorem vec_congr {k : Nat} {f g : Nat → Int} (h : ∀ i, i < k → f i = g i) : vec k f = vec k g := List.map_congr_left fun i hi => h i (List.mem_range.mp hi)
section
variable {K : PySem.W.Frag} {H : Hp} {Q : VK}
theorem sl_uni {a : Addr} {xs : List V} {lo hi : Option Int} (h : H a = some (.tup xs)) (q : ∀ u H', Same H H' → H' u = some (.tup (cutV xs lo hi)) → Q (.ref u) H') : rSlA K (.ref a) lo hi H Q := by
  refine ⟨a, xs, rfl, SqT.of h, fun w => q a H (Same.refl H) ?_, fun _ u nu => q u _ (same_upd nu) upd_same⟩
  rw [h]
  unfold cutV
  rw [w.1, w.2, List.drop_zero, Nat.sub_zero, List.take_length]
theorem cat_uni {a b : Addr} {xs ys : List V} (ha : H a = some (.tup xs)) (hb : H b = some (.tup ys)) (l : xs.length + ys.length ≤ sizeLine) (q : ∀ u H', Same H H' → H' u = some (.tup (xs ++ ys)) → Q (.ref u) H') : rCatA K (.ref a) (.ref b) H Q := by
  refine ⟨a, b, xs, ys, rfl, rfl, SqT.of ha, SqT.of hb, l, fun e => q b H (Same.refl H) ?_, fun _ e => q a H (Same.refl H) ?_, fun _ _ u nu => q u _ (same_upd nu) upd_same⟩
  · rw [hb, e, List.nil_append]
  · rw [ha, e, List.append_nil]
end
theorem eqv_selfL (t : List Int) : PyData.eqv (.list (t.map PyData.int)) (.list (t.map PyData.int)) = true := SeqAt.eqv_refl _ (SeqAt.canLay_of_shaped (lst_shaped t))
end Sm

set_option Elab.async false
set_option linter.all false
set_option maxRecDepth 100000
set_option maxHeartbeats 4000000
namespace Sm
open PySem PySem.Spec PyProof.Rows L2
/-! ### enumerate of a tuple -/
def tIt (l : Addr) : Obj := { cls := Value.type "tuple_iterator", data := Data.fields #[Value.ref l, Value.int 0 0] }
def eIt (i : Addr) : Obj := { cls := Value.type "enumerate", data := Data.fields #[Value.none, Value.bool false, Value.ref i, rawInt 0, Value.none, Value.none] }
theorem meets_enumerate_newT (l : Addr) (items : Array Value) : Meets (Builtin.«enumerate.__new__» { pos := [Value.type "enumerate", Value.ref l] }) fun _ R s =>
    s.heap.IsTuple l items ∧ R (Except.ok (Flow.ret (Value.ref (s.heap.push (tIt l)).objs.size))) { heap := (s.heap.push (tIt l)).push (eIt s.heap.objs.size), gens := s.gens, drawn := s.drawn, toks := s.toks, os := s.os } := by
  refine Meets.of_wp fun prog w A R s h => ?_
  obtain ⟨hT, h⟩ := h
  have hsub := sub_enumerate
  unfold Builtin.«enumerate.__new__»
  refine wpAny_bind (wpAny_bind (wpAny_pure (wpAny_ite_false rfl (wpAny_bind (wpAny_of_eq hsub (wpAny_ite_false rfl (wpAny_pure (wpAny_ite_true rfl (wpAny_bind (wpAny_bind (wpAny_stack_any fun st => wpAny_pure ?_)))))))))))
  have tail : wpAny (model prog w) A.in1 (Builtin.SmallTypes.newRecord (Value.type "enumerate") (Builtin.SmallTypes.ownedTupleFields ++ [Value.ref s.heap.objs.size, rawInt 0, Value.none, Value.none]))
      (fun a s' => wpAny (model prog w) A.in1 (ret a) (fun fin s' => ∃ v, fin = Fin.done (Flow.ret v) ∧ R (Except.ok (Flow.ret v)) s') (fun e s' => R (Except.error e) s') s') (fun e s' => R (Except.error e) s')
      { heap := s.heap.push (tIt l), gens := s.gens, drawn := s.drawn, toks := s.toks, os := s.os } := by
    unfold Builtin.SmallTypes.newRecord
    show wpAny (model prog w) A.in1 (newObj (Value.type "enumerate") (Data.fields (Builtin.SmallTypes.ownedTupleFields ++ [Value.ref s.heap.objs.size, rawInt 0, Value.none, Value.none]).toArray)) _ _ _
    unfold newObj
    show wpAny (model prog w) A.in1 (if (Builtin.SmallTypes.ownedTupleFields ++ [Value.ref s.heap.objs.size, rawInt 0, Value.none, Value.none]).toArray.size > sizeLine + 2 then _ else _) _ _ _
    apply wpAny_ite_false
    · exact decide_eq_false (by show ¬ (6 > sizeLine + 2); decide)
    refine wpAny_bind (wpAny_alloc' (wpAny_pure ?_))
    exact wpAny_pure ⟨_, rfl, h⟩
  split
  · rename_i c tl kw snd tl2 eq
    cases c == Value.type "enumerate"
    · exact wpAny_ite_false rfl (wpAny_bind (wpAny_of_eq (a := (Value.ref l, none)) rfl (wpAny_bind (wpAny_pyIter_tuple hT (wpAny_bind tail)))))
    · exact wpAny_ite_true rfl (wpAny_bind (wpAny_pure (wpAny_bind (wpAny_pyIter_tuple hT (wpAny_bind tail)))))
  · exact wpAny_ite_false rfl (wpAny_bind (wpAny_of_eq (a := (Value.ref l, none)) rfl (wpAny_bind (wpAny_pyIter_tuple hT (wpAny_bind tail)))))
theorem call_enumerate_tuple {prog : Program} {w : World} {A : Around} {E : Value → Shared → Prop} {s : Shared} {l : Addr} {items : Array Value} {Q : Value → Shared → Prop} (hT : s.heap.IsTuple l items)
    (h : ∀ h' : Heap, IsEnum h' (s.heap.objs.size + 1) s.heap.objs.size 0 Value.none → h'.IsTupleIter s.heap.objs.size l 0 → h'.objs.size = s.heap.objs.size + 2 → (∀ (b : Addr) (o : Obj), s.heap.get? b = some o → h'.get? b = some o) → Q (Value.ref (s.heap.objs.size + 1)) { s with heap := h' }) :
    wpAny (model prog w) A (call (Value.type "enumerate") [Value.ref l]) Q E s := by
  have hz : (s.heap.push (tIt l)).objs.size = s.heap.objs.size + 1 := Heap.size_push _ _
  refine callType_new F.called_enumerate (by decide) (F.typeCall_enumerate_1 (Value.ref l)) (F.newCall_enumerate_1 (Value.ref l)) (fun obj => F.args_object_init_2 obj (Value.ref l)) F.entry_enumerate_new (meets_enumerate_newT l items) ⟨hT, ?_⟩
  have he : ((s.heap.push (tIt l)).push (eIt s.heap.objs.size)).get? (s.heap.objs.size + 1) = some (eIt s.heap.objs.size) := by
    have := Heap.get?_push_size (s.heap.push (tIt l)) (o := eIt s.heap.objs.size) rfl
    rw [hz] at this
    exact this
  rw [hz]
  refine ⟨⟨_, he, rfl⟩, h _ he ⟨_, Heap.get?_push_of_some _ (Heap.get?_push_size s.heap rfl), rfl, rfl⟩ ?_ fun b o y => Heap.get?_push_of_some _ (Heap.get?_push_of_some _ y)⟩
  rw [Heap.size_push, hz]
def IteT (K : PySem.W.Frag) (a : Addr) : It :=
  { go := fun i H => ∃ xs x, SqT K H a xs ∧ xs[i]? = some x,
    yld := fun i H v H' => ∃ T x, v = V.ref T ∧ H T = none ∧ H' = upd H T (HO.tup [V.int ((i : Nat) : Int), x]) ∧ ∀ xs : List V, SqT K H a xs → xs[i]? = some x,
    stop := fun i H => ∃ xs, SqT K H a xs ∧ xs.length = i }
theorem turn_enumT {P : Program} {w : World} {K : PySem.W.Frag} {elts : List Expr} {kk : Nat} {tpos : Pos} (a e it : Addr) :
    Turn P w K (Expr.Tuple elts kk tpos) (IteT K a) [e, it] e (fun i h => (∃ old, IsEnum h e it ((i : Nat) : Int) old) ∧ h.IsTupleIter it a i ∧ e ≠ it) where
  mem := List.mem_cons_self ..
  obj := by
    rintro i h ⟨⟨old, he⟩, ⟨o, ho, hc, hd⟩, hne⟩ b hb
    rcases List.mem_cons.mp hb with rfl | hb
    · exact ⟨_, he, fun v q => nomatch q⟩
    · rw [List.mem_singleton.mp hb]
      exact ⟨o, ho, fun v q => by rw [hd] at q; cases q⟩
  keep := by
    rintro i h h' ⟨⟨old, he⟩, hit, hne⟩ k
    exact ⟨⟨old, k e (List.mem_cons_self ..) _ he⟩, hit.at fun o q => k it (List.mem_cons_of_mem _ (List.mem_singleton.mpr rfl)) o q, hne⟩
  item := by
    rintro X rfl rfl rfl hc i pins s σ H E I hf ⟨⟨old, he⟩, hit, hne⟩ ⟨xs, x, hq, hx⟩
    obtain ⟨its, rv, p, hz⟩ := I.tuple hq
    obtain ⟨u, hu, ru⟩ := rv.get hx
    have tup : s.heap.IsTuple a its.toArray := p
    have hel := Heap.lt_size he
    have hil : it < s.heap.objs.size := by
      obtain ⟨o, q, _⟩ := hit
      exact Heap.lt_size q
    have hal : a ≠ it := by
      rintro rfl
      obtain ⟨o, q1, q2, _⟩ := hit
      obtain ⟨o', q3, q4, _⟩ := tup
      rw [q1] at q3
      cases q3
      rw [q2] at q4
      exact absurd q4 (by decide)
    have hae : e ≠ a := by
      rintro rfl
      obtain ⟨o', q3, q4, _⟩ := tup
      rw [he] at q3
      cases q3
      exact absurd (show Value.type "enumerate" = Value.type "tuple" from q4) (by decide)
    have hn : i < its.length := (List.getElem?_eq_some_iff.mp hu).1
    refine wpAny_pyNext_enum_itemD (Draws.tuple (A := X.A.in1) (I.ok.hd hc) it a hal its.toArray) he ⟨hit, tup⟩ (by rw [List.size_toArray]; exact hn) hne (by simp [hne, hae]) (fun x' h' tk px ho st' hT hsz hk => ?_)
    have px : x' = u := by
      have px : its[i]? = some x' := by simpa using px
      rw [hu] at px
      exact (Option.some.inj px).symm
    subst px
    refine ⟨_, rfl, wpAny_letOwnedTupleGo_enum ho fun h'' he' sb => ?_⟩
    have hT2 := (sb.2 _ (Nat.ne_of_gt hel)).trans hT
    have new : ObjOk X.prog X.w (upd H s.heap.objs.size (.tup [.int (i : Int), x])) h'' s.heap.objs.size (.tup [.int (i : Int), x]) := ⟨(by show 2 ≤ sizeLine; decide), [Value.int (i : Int) tk, x'], .cons ⟨tk, rfl⟩ (.cons ru .nil), _, hT2, rfl, 0, rfl⟩
    have I1 := Inv.turnedNew (t' := tk + 1) (ch := [e, it]) I (fun b o hb q => (sb.2 b (fun z => hb (by rw [z]; exact List.mem_cons_self ..))).trans (hk b o (fun z => hb (by rw [z]; exact List.mem_cons_self ..)) (fun z => hb (by rw [z]; exact List.mem_cons_of_mem _ (List.mem_singleton.mpr rfl))) q)) hf (Nat.le_refl _) new
    refine ⟨V.ref s.heap.objs.size, _, I1, rfl, ⟨_, x, rfl, I.hok.fresh (Nat.le_refl _), rfl, fun ys hy => by rw [I.tuple_inj hy hq]; exact hx⟩, ⟨⟨x', ?_⟩, st'.1.at fun o q => (sb.2 _ hne.symm).trans q, hne⟩, fun b hb => ?_⟩
    · have e1 : ((i + 1 : Nat) : Int) = (i : Int) + 1 := by omega
      rw [e1]
      exact he'
    · have lt : b < s.heap.objs.size := by
        rcases List.mem_cons.mp hb with rfl | hb
        · exact hel
        · rw [List.mem_singleton.mp hb]
          exact hil
      rw [upd_ne (Nat.ne_of_lt lt)]
      exact (hf b hb).1
  done := by
    rintro X rfl rfl rfl hc i pins s σ H E I hf ⟨⟨old, he⟩, hit, hne⟩ ⟨xs, hq, hx⟩
    obtain ⟨its, rv, p, hz⟩ := I.tuple hq
    have tup : s.heap.IsTuple a its.toArray := p
    have hal : a ≠ it := by
      rintro rfl
      obtain ⟨o, q1, q2, _⟩ := hit
      obtain ⟨o', q3, q4, _⟩ := tup
      rw [q1] at q3
      cases q3
      rw [q2] at q4
      exact absurd q4 (by decide)
    obtain ⟨f0, f1, f2, f3, f4, f5⟩ := hf it (List.mem_cons_of_mem _ (List.mem_singleton.mpr rfl))
    have en : its.toArray.size = i := by rw [List.size_toArray, ← rv.length]; exact hx
    refine wpAny_pyNext_enum_endD (Draws.tuple (A := X.A.in1) (I.ok.hd hc) it a hal its.toArray) he ⟨by rw [en]; exact hit, tup⟩ fun h' eb => ⟨rfl, Inv.turned I (fun b o hb q => eb b o hb q) f0 f1 f3 f4 f5⟩
  self := by
    rintro A i s Q E ⟨⟨old, he⟩, _⟩ h
    exact wpAny_pyIter_enum he h
theorem walk_enumT {K : PySem.W.Frag} {a : Addr} {xs : List V} : Walk (IteT K a) xs.length (fun H => SqT K H a xs) (YPair (fun i => some (V.int ((i : Nat) : Int))) fun i => xs[i]?) where
  goes := fun i H hi q => ⟨xs, xs[i], q, by simp [hi]⟩
  stops := fun H q => ⟨xs, q, rfl⟩
  yields := by
    rintro i H v H' hi q ⟨T, x, h1, h2, h3, h4⟩
    exact ⟨T, _, x, h1, h2, h3, rfl, h4 xs q⟩
section
variable {X : Cx} {tg : Expr}
def iEnumT (K : PySem.W.Frag) (ta : TA) : TI := fun σ H R => ta σ H fun vs H1 => ∃ a xs, vs = [V.ref a] ∧ SqT K H1 a xs ∧ R (IteT K a) H1
theorem pi_enumT {e : Expr} {ta : TA} {p pos tpos : Pos} {elts : List Expr} {kk : Nat} (hg : Gl X "enumerate") (hm : X.mg "enumerate" = none) (ha : PA X [e] ta) (hs : starEach [e] X.env = [(false, eval e X.env)] := by rfl) :
    PI X (Expr.Tuple elts kk tpos) (.Call (.Name "enumerate" p) [e] [] pos) (iEnumT X.K ta) := by
  constructor
  intro pins s σ H R I want
  refine Call_ (ld_blt I hg hm boot_enumerate (PyProof.Rows.callWith_type1 (thn (ha.run pos pins s σ H _ I want) ?_) hs rfl))
  rintro us s1 ⟨vs, H1, I1, rel, a, xs, rfl, hq, q⟩
  obtain ⟨its, rv, p', hz⟩ := I1.tuple hq
  rw [Vals.ref1 rel]
  have tup : s1.heap.IsTuple a its.toArray := p'
  refine call_enumerate_tuple tup fun h' he hit hsz hk => wpAny_pyIter_enum he ?_
  have I2 := I1.kept (t' := s1.toks) hk
  have hne : s1.heap.objs.size + 1 ≠ s1.heap.objs.size := by omega
  refine ⟨s1.heap.objs.size + 1, [s1.heap.objs.size + 1, s1.heap.objs.size], _, IteT X.K a, H1, rfl, I2, turn_enumT a _ _, ⟨⟨_, he⟩, hit, hne⟩, fun b hb => ?_, q⟩
  have ge : s1.heap.objs.size ≤ b := by
    rcases List.mem_cons.mp hb with rfl | hb
    · omega
    · rw [List.mem_singleton.mp hb]
      exact Nat.le_refl _
  have fr := I1.hok.fresh ge
  have f := I1.fpOk ge fr
  exact f
end
end Sm

set_option Elab.async false
set_option linter.all false
set_option maxRecDepth 100000
set_option maxHeartbeats 4000000
namespace Sm
open PySem PySem.Spec PyProof.Rows L2
/-! ### ranges of great ints; the sum of a tuple -/
theorem turn_long {P : Program} {w : World} {K : PySem.W.Frag} {tg : Expr} (it : Addr) (lo : Int) (n : Nat) : Turn P w K tg (Itr lo n) [it] it (fun i h => IsLongIter h it (lo + (i : Nat) * 1) ((n : Int) - (i : Nat)) 1) where
  mem := List.mem_singleton.mpr rfl
  obj := by
    intro i h st b hb
    rw [List.mem_singleton.mp hb]
    exact ⟨_, st, fun v z => nomatch z⟩
  keep := fun i h h' st k => k it (List.mem_singleton.mpr rfl) _ st
  item := by
    rintro X rfl rfl rfl hc i pins s σ H E I hf st hg
    obtain ⟨g0, g1, g2, g3, g4, g5⟩ := hf it (List.mem_singleton.mpr rfl)
    refine (Walks.longrange (prog := X.prog) (w := X.w) (I.ok.hd hc) it lo 1 n).item i s _ _ hg st ?_
    rintro v h' tk ⟨t, rfl⟩ st' same
    have J : Inv X pins σ H { s with heap := h', toks := tk } := I.turned (fun b o hb e => same b o (by simpa using hb) e) g0 g1 g3 g4 g5
    refine ⟨_, rfl, go_of (s := { s with heap := h', toks := tk }) (n := "longrange_iterator") st' rfl rfl (by decide) ⟨.int (lo + i), H, J, ⟨t, ?_⟩, ⟨rfl, rfl⟩, st', fun b hb => (hf b hb).1⟩⟩
    rw [Int.mul_one]
  done := by
    rintro X rfl rfl rfl hc i pins s σ H E I hf st hg
    obtain ⟨g0, g1, g2, g3, g4, g5⟩ := hf it (List.mem_singleton.mpr rfl)
    refine wpAny_pyNext_long_end (I.ok.hd hc) st (by have : n ≤ i := hg; omega) ?_
    intro h' eb
    exact ⟨rfl, I.turned (t' := s.toks) (fun b o hb e => eb b o hb e) g0 g1 g3 g4 g5⟩
  self := fun _ _ _ _ _ st h => wpAny_pyIter_longiter st h
section
variable {X : Cx} {tg : Expr}
def iRngW (ta : TA) : TI := fun σ H R => ta σ H fun vs H1 => ∃ i j : Int, vs = [.int i, .int j] ∧ R (Itr i (j - i).toNat) H1
theorem range_any {pins : List (Addr × Obj)} {σ : L2.St} {H : Hp} {s : Shared} {R : It → Hp → Prop} {E : Value → Shared → Prop} {lo hi : Int} {t u v : Tok} {tk : Nat} (I : Inv X pins σ H s)
    (q : R (Itr lo (hi - lo).toNat) H) : wpAny (model X.prog X.w) X.A (pyIter (.ref s.heap.objs.size)) (PIE X pins σ tg R) E { s with heap := s.heap.push { cls := .type "range", data := .fields #[.int lo t, .int hi u, .int 1 v] }, toks := tk } := by
  have J : Inv X pins σ H { s with heap := s.heap.push { cls := .type "range", data := .fields #[.int lo t, .int hi u, .int 1 v] }, toks := tk } := I.kept fun b o e => Heap.get?_push_of_some _ e
  have size : (((hi - lo).toNat : Nat) : Int) - ((0 : Nat) : Int) = Builtin.Range.rangeSize lo hi 1 := by
    rw [rangeSize_one]
    split <;> omega
  have first : lo + ((0 : Nat) : Int) * 1 = lo := by omega
  have fresh : ∀ b ∈ [(s.heap.push { cls := .type "range", data := .fields #[.int lo t, .int hi u, .int 1 v] }).objs.size], FpOk X pins H b := by
    intro b hb
    rw [List.mem_singleton.mp hb]
    exact J.fpOk (Nat.le_refl _) (J.hok.fresh (Nat.le_refl _))
  cases sm : Builtin.Range.small lo hi 1 with
  | true =>
    refine wpAny_pyIter_range (IsRange.new ..) sm ⟨_, [_], _, _, H, rfl, J.kept (t' := tk) fun b o e => Heap.get?_push_of_some _ e, turn_range _ lo (hi - lo).toNat, ?_, fresh, q⟩
    show IsRangeIter _ _ (lo + ((0 : Nat) : Int) * 1) ((((hi - lo).toNat : Nat) : Int) - ((0 : Nat) : Int)) 1
    rw [first, size]
    exact Heap.get?_push_size _ rfl
  | false =>
    refine wpAny_pyIter_longrange (IsRange.new ..) sm ⟨_, [_], _, _, H, rfl, J.kept (t' := tk) fun b o e => Heap.get?_push_of_some _ e, turn_long _ lo (hi - lo).toNat, ?_, fresh, q⟩
    show IsLongIter _ _ (lo + ((0 : Nat) : Int) * 1) ((((hi - lo).toNat : Nat) : Int) - ((0 : Nat) : Int)) 1
    rw [first, size]
    exact Heap.get?_push_size _ rfl
theorem pi_range2W {a b : Expr} {ta : TA} {p pos : Pos} (hg : Gl X "range") (hm : X.mg "range" = none) (ha : PA X [a, b] ta) (hs : starEach [a, b] X.env = [(false, eval a X.env), (false, eval b X.env)] := by rfl) (hs2 : starEach [b] X.env = [(false, eval b X.env)] := by rfl) :
    PI X tg (.Call (.Name "range" p) [a, b] [] pos) (iRngW ta) := by
  constructor
  intro pins s σ H R I want
  refine Call_ (ld_blt I hg hm boot_range (PyProof.Rows.callWith_type1 (thn (ha.run pos pins s σ H _ I want) ?_) (by rw [hs, hs2]) (by rw [hs2]; rfl)))
  rintro us s1 ⟨vs, H1, I1, rel, i, j, rfl, q⟩
  obtain ⟨u1, u2, rfl, ⟨t, rfl⟩, ⟨t', rfl⟩⟩ := vals2 rel
  exact call_range_2 (range_any I1 q)
theorem preSum_list (ns : List Int) : ∀ n, n ≤ ns.length → preSum (fun i => ns.getD i 0) n = (ns.take n).sum
  | 0, _ => by simp [preSum]
  | n + 1, h => by
    have ih := preSum_list ns n (by omega)
    rw [take_sum_succ ns n (by omega), ← ih]
    rfl
theorem cr_sumT (hc : X.calm = true) : CallR X (.builtin "sum") (fun vs H Q => ∃ (a : Addr) (ns : List Int), vs = [.ref a] ∧ SqT X.K H a (ns.map V.int) ∧ Q (.int ns.sum) H) := by
  intro pins s σ H vs us Q I rel want
  obtain ⟨a, ns, rfl, hs, q⟩ := want
  obtain ⟨its, rv, tup, _⟩ := I.tuple hs
  rw [Vals.ref1 rel]
  have tup : s.heap.IsTuple a its.toArray := tup
  have len : ns.length = its.length := by rw [← rv.length, List.length_map]
  have ne : a ≠ s.heap.objs.size := Nat.ne_of_lt (Heap.lt_size tup.choose_spec.1)
  refine call_sum_walkG (wpAny_pyIter_tuple tup ?_)
  refine ⟨s.heap.objs.size, _, _, _, _, _, fun i => ns.getD i 0, rfl, Walks.tuple (A := X.A.in1) (I.ok.hd hc) _ a ne its.toArray, ⟨?_, ?_⟩, ?_, ?_, ?_⟩
  · exact ⟨_, Heap.get?_push_size _ rfl, rfl, rfl⟩
  · exact tup.at fun o e => Heap.get?_push_of_some _ e
  · intro b hb
    show b < (s.heap.push _).objs.size
    rw [Heap.size_push]
    rcases List.mem_cons.mp hb with rfl | hb
    · exact Nat.lt_succ_self _
    · rw [List.mem_singleton.mp hb]
      exact Nat.lt_succ_of_lt (Heap.lt_size tup.choose_spec.1)
  · intro i v hv
    have hv : its[i]? = some v := by simpa using hv
    have hi : i < its.length := (List.getElem?_eq_some_iff.mp hv).1
    have g : (ns.map V.int)[i]? = some (.int (ns.getD i 0)) := by
      rw [List.getElem?_map, List.getElem?_eq_getElem (by omega), List.getD_eq_getElem?_getD, List.getElem?_eq_getElem (by omega)]
      rfl
    obtain ⟨u, hu, ru⟩ := rv.get g
    rw [hv] at hu
    injection hu with hu
    subst hu
    exact ru
  · intro h' tk t' keep
    have e : preSum (fun i => ns.getD i 0) its.toArray.size = ns.sum := by
      rw [List.size_toArray, ← len, preSum_list ns _ (Nat.le_refl _), List.take_length]
    rw [e]
    refine ⟨.int _, H, ?_, ⟨_, rfl⟩, q⟩
    refine I.kept fun b o z => keep b o (fun hb => ?_) (Heap.get?_push_of_some _ z)
    have := Heap.lt_size z
    rw [List.mem_singleton.mp hb] at this
    exact absurd this (Nat.lt_irrefl _)
end
end Sm

set_option Elab.async false
set_option linter.all false
set_option maxRecDepth 100000
set_option maxHeartbeats 4000000
namespace Sm
open PySem PySem.Spec PyProof.Rows L2
/-! ### a range kept in a variable -/
section
variable {X : Cx} {tg e : Expr} {te : TE}
theorem cr_range1 : CallR X (.type "range") (fun vs H Q => ∃ j : Int, vs = [V.int j] ∧ ∀ p, H p = none → Q (.ref p) (upd H p (.rng 0 j))) := by
  rintro pins s σ H vs us Q I r ⟨j, rfl, q⟩
  obtain ⟨u, rfl, t, rfl⟩ := vals1 r
  have fresh := I.hok.fresh (Nat.le_refl s.heap.objs.size)
  exact call_range_1 ⟨.ref s.heap.objs.size, _, I.laid (t' := s.toks + 1 + 1) (o := .rng 0 j) (fun _ _ z => Heap.get?_push_of_some _ z) (Nat.le_refl _) ⟨_, _, _, Heap.get?_push_size _ rfl⟩, rfl, q _ fresh⟩
theorem range_at {pins : List (Addr × Obj)} {σ : L2.St} {H : Hp} {s : Shared} {R : It → Hp → Prop} {E : Value → Shared → Prop} {lo hi : Int} {a : Addr} (I : Inv X pins σ H s) (ha : H a = some (.rng lo hi))
    (q : R (Itr lo (hi - lo).toNat) H) : wpAny (model X.prog X.w) X.A (pyIter (.ref a)) (PIE X pins σ tg R) E s := by
  obtain ⟨t, u, v, ho⟩ := I.hok a _ ha
  have size : (((hi - lo).toNat : Nat) : Int) - ((0 : Nat) : Int) = Builtin.Range.rangeSize lo hi 1 := by
    rw [rangeSize_one]
    split <;> omega
  have first : lo + ((0 : Nat) : Int) * 1 = lo := by omega
  have fresh : ∀ b ∈ [s.heap.objs.size], FpOk X pins H b := by
    intro b hb
    rw [List.mem_singleton.mp hb]
    exact I.fpOk (Nat.le_refl _) (I.hok.fresh (Nat.le_refl _))
  cases sm : Builtin.Range.small lo hi 1 with
  | true =>
    refine wpAny_pyIter_range ho sm ⟨_, [_], _, _, H, rfl, I.kept (t' := s.toks) fun b o e => Heap.get?_push_of_some _ e, turn_range _ lo (hi - lo).toNat, ?_, fresh, q⟩
    show IsRangeIter _ _ (lo + ((0 : Nat) : Int) * 1) ((((hi - lo).toNat : Nat) : Int) - ((0 : Nat) : Int)) 1
    rw [first, size]
    exact Heap.get?_push_size _ rfl
  | false =>
    refine wpAny_pyIter_longrange ho sm ⟨_, [_], _, _, H, rfl, I.kept (t' := s.toks) fun b o e => Heap.get?_push_of_some _ e, turn_long _ lo (hi - lo).toNat, ?_, fresh, q⟩
    show IsLongIter _ _ (lo + ((0 : Nat) : Int) * 1) ((((hi - lo).toNat : Nat) : Int) - ((0 : Nat) : Int)) 1
    rw [first, size]
    exact Heap.get?_push_size _ rfl
/-- for x in r, r a range that a variable holds -/
def iRngV (te : TE) : TI := fun σ H R => te σ H fun x H1 => ∃ (a : Addr) (lo hi : Int), x = .ref a ∧ H1 a = some (.rng lo hi) ∧ R (Itr lo (hi - lo).toNat) H1
theorem pi_rng (he : PE X e te) : PI X tg e (iRngV te) := by
  refine ⟨fun pins s σ H R I h => thn (he.run pins s σ H _ I h) ?_⟩
  rintro u s1 ⟨x, H1, I1, rx, a, lo, hi, rfl, ha, q⟩
  obtain rfl : u = Value.ref a := rx
  exact range_at I1 ha q
end
end Sm

set_option Elab.async false
set_option linter.all false
set_option maxRecDepth 100000
set_option maxHeartbeats 4000000
namespace Sm
open PySem PySem.Spec PyProof.Rows L2
/-! ### a tuple taken once, or no times -/
theorem tuple_once (l : Addr) (items : Array Value) (n : Nat) (dd : Option Addr) (sl : Array (Option Value)) (u : Tok) :
    Meets (Builtin.«tuple.__mul__» ⟨[.ref l, .int 1 u], []⟩) (fun _ R s => s.heap.get? l = some { cls := .type "tuple", dict := dd, data := .seq items n, slots := sl } ∧ R (.ok (.ret (Value.ref l))) s) :=
  .of_wp fun prog w A R s h => by
    obtain ⟨hp, g, d, tk, os⟩ := s
    obtain ⟨hl, h⟩ := h
    have f1 := AutoSeq1.idx_int
    have c0 : (decide ((1 : Int) < -(2 ^ 63)) || decide ((1 : Int) ≥ 2 ^ 63)) = false := by decide
    wp_walk using wpAny_loadPart' hl
    exact ⟨_, rfl, h⟩
theorem tuple_zero (l : Addr) (items : Array Value) (n : Nat) (dd : Option Addr) (sl : Array (Option Value)) (u : Tok) (hi : items.isEmpty = false) :
    Meets (Builtin.«tuple.__mul__» ⟨[.ref l, .int 0 u], []⟩) (fun _ R s => s.heap.get? l = some { cls := .type "tuple", dict := dd, data := .seq items n, slots := sl } ∧ R (.ok (.ret (Value.ref s.heap.objs.size))) { s with heap := s.heap.push { cls := Value.type "tuple", data := Data.seq #[] } }) :=
  .of_wp fun prog w A R s h => by
    obtain ⟨hp, g, d, tk, os⟩ := s
    obtain ⟨hl, h⟩ := h
    have f1 := AutoSeq1.idx_int
    wp_walk using wpAny_loadPart' hl
    exact ⟨_, rfl, h⟩
section
variable {X : Cx}
/-- tuple * int, the int from 0 on -/
theorem op_rep0 : OpR X (binaryOp .Mult) (fun x y H Q => ∃ (l : Addr) (k : Int) (xs : List V), x = .ref l ∧ y = .int k ∧ H l = some (.tup xs) ∧ xs ≠ [] ∧ 0 ≤ k ∧ k ≤ 1000 ∧ xs.length ≤ 1000 ∧
    ∀ H' q, Same H H' → H' q = some (.tup (List.replicate k.toNat xs).flatten) → Q (.ref q) H') := by
  intro pins s σ H x y v u Q I rx ry want
  obtain ⟨l, k, xs, rfl, rfl, hT, hne, h0, h1, hz, q⟩ := want
  by_cases big : 2 ≤ k
  · exact op_repT pins s σ H _ _ v u Q I rx ry ⟨l, k, xs, rfl, rfl, SqT.of hT, hne, big, h1, hz, fun p np => q _ p (fun b o e => by rw [upd_ne (ne_of_none e np)]; exact e) upd_same⟩
  cases rx
  obtain ⟨t, rfl⟩ := ry
  obtain ⟨its, r, ⟨⟨cls, dd, data, sl⟩, ho, hc, n, hd⟩, hs⟩ := I.tuple (SqT.of hT)
  simp only at hc hd
  subst hc hd
  have hi : its.toArray.isEmpty = false := by
    cases its with
    | nil =>
      have := r.length
      exact absurd (List.eq_nil_of_length_eq_zero this) hne
    | cons a b => rfl
  by_cases one : k = 1
  · subst one
    refine wpAny_binaryOp_repeat_ref (T := "tuple") (U := "int") (by decide) ⟨_, ho, rfl⟩ (fun s' => typeIs_int s' 1 t) noFill_tuple_mul F.fills_int_mul F.slot_int_rmul repeat_tuple F.slot_int_index.lookup
      (call_meets F.slot_int_rmul (typeIs_int s 1 t) F.entry_int_rmul (F.args_int_rmul_2 _ _) (int_rmul_tuple 1 t l its.toArray n dd sl) ⟨ho, rfl, ⟨_, ho, rfl⟩, ?_⟩)
    refine call_meets F.slot_tuple_mul ⟨_, ho, rfl⟩ F.entry_tuple_mul (F.args_tuple_mul_2 _ _) (tuple_once l its.toArray n dd sl t) ⟨ho, ?_⟩
    refine ⟨.ref l, H, I, rfl, q H l (Same.refl H) ?_⟩
    rw [hT]
    simp
  · have zero : k = 0 := by omega
    subst zero
    refine wpAny_binaryOp_repeat_ref (T := "tuple") (U := "int") (by decide) ⟨_, ho, rfl⟩ (fun s' => typeIs_int s' 0 t) noFill_tuple_mul F.fills_int_mul F.slot_int_rmul repeat_tuple F.slot_int_index.lookup
      (call_meets F.slot_int_rmul (typeIs_int s 0 t) F.entry_int_rmul (F.args_int_rmul_2 _ _) (int_rmul_tuple 0 t l its.toArray n dd sl) ⟨ho, rfl, ⟨_, ho, rfl⟩, ?_⟩)
    refine call_meets F.slot_tuple_mul ⟨_, ho, rfl⟩ F.entry_tuple_mul (F.args_tuple_mul_2 _ _) (tuple_zero l its.toArray n dd sl t hi) ⟨ho, ?_⟩
    have fresh := I.hok.fresh (Nat.le_refl s.heap.objs.size)
    refine ⟨.ref s.heap.objs.size, upd H s.heap.objs.size (.tup []), I.laid (t' := s.toks) (fun b ob e => Heap.get?_push_of_some _ e) (Nat.le_refl _) ?_, rfl, q _ _ (fun b o e => by rw [upd_ne (ne_of_none e fresh)]; exact e) upd_same⟩
    exact ⟨Nat.zero_le _, [], .nil, IsTup.new _ _⟩
end
end Sm

set_option Elab.async false
set_option linter.all false
set_option maxRecDepth 100000
set_option maxHeartbeats 8000000
namespace Sm
open PySem PySem.Spec PyProof.Rows L2
open C8 (pss_cut)
def topS (i : Nat) : Stmt := PySem.Challenge.pw_smallchange_k74_whole_purses_go_the_way.main.body.getD i (.Pass ⟨0, 0, 0, 0⟩)
structure Txt (mg : Str → Option Value) : Prop where
  n_abs : mg "abs" = none
  n_all : mg "all" = none
  n_any : mg "any" = none
  n_bool : mg "bool" = none
  n_enumerate : mg "enumerate" = none
  n_int : mg "int" = none
  n_isinstance : mg "isinstance" = none
  n_iter : mg "iter" = none
  n_len : mg "len" = none
  n_list : mg "list" = none
  n_max : mg "max" = none
  n_range : mg "range" = none
  n_repr : mg "repr" = none
  n_set : mg "set" = none
  n_sorted : mg "sorted" = none
  n_tuple : mg "tuple" = none
  n_zip : mg "zip" = none
  c_MAX_KINDS : ∃ t, mg "MAX_KINDS" = some (.int 4 t)
  c_MAX_AMOUNT : ∃ t, mg "MAX_AMOUNT" = some (.int 30 t)
theorem get_int {T : List Int} {i : Nat} (h : i < T.length) : (T.map V.int)[i]? = some (.int (T.getD i 0)) := by
  rw [List.getElem?_map, List.getElem?_eq_getElem h, List.getD_eq_getElem?_getD, List.getElem?_eq_getElem h]
  rfl
/-! ### boards in the heap -/
def OffAt (H : Hp) (q : Addr) (o : Of) : Prop := H q = some (.tup (o.ns.map V.int))
/-- the offers of a list, one after another -/
def OffsAt (H : Hp) (qs : List Addr) (L : List Of) : Prop := qs.length = L.length ∧ ∀ (i : Nat) (q : Addr), qs[i]? = some q → ∃ o, L[i]? = some o ∧ OffAt H q o
def BoardAt (H : Hp) (d : Addr) (k : Nat) (L : List Of) : Prop := ∃ (t : Addr) (qs : List Addr), H d = some (.tup [.int (k : Int), .ref t]) ∧ H t = some (.tup (qs.map V.ref)) ∧ OffsAt H qs L
theorem OffsAt.same {H H' : Hp} {qs : List Addr} {L : List Of} (h : OffsAt H qs L) (s : Same H H') : OffsAt H' qs L :=
  ⟨h.1, fun i q e => by obtain ⟨o, h1, h2⟩ := h.2 i q e; exact ⟨o, h1, s _ _ h2⟩⟩
theorem BoardAt.same {H H' : Hp} {d : Addr} {k : Nat} {L : List Of} (h : BoardAt H d k L) (s : Same H H') : BoardAt H' d k L := by
  obtain ⟨t, qs, h1, h2, h3⟩ := h
  exact ⟨t, qs, s _ _ h1, s _ _ h2, h3.same s⟩
theorem OffsAt.fr {H H' : Hp} {a l : Addr} {n : Int} {qs : List Addr} {L : List Of} (h : OffsAt H qs L) (f : Fr a l H H') (D : Deck H a l n) : OffsAt H' qs L :=
  ⟨h.1, fun i q e => by obtain ⟨o, h1, h2⟩ := h.2 i q e; exact ⟨o, h1, f.tup D h2⟩⟩
theorem BoardAt.fr {H H' : Hp} {d a l : Addr} {n : Int} {k : Nat} {L : List Of} (h : BoardAt H d k L) (f : Fr a l H H') (D : Deck H a l n) : BoardAt H' d k L := by
  obtain ⟨t, qs, h1, h2, h3⟩ := h
  exact ⟨t, qs, f.tup D h1, f.tup D h2, h3.fr f D⟩
/-- a list's place rewritten: tuples stay -/
theorem OffsAt.updL {H : Hp} {U : Addr} {xs ys : List V} {qs : List Addr} {L : List Of} (h : OffsAt H qs L) (hU : H U = some (.lst xs)) : OffsAt (upd H U (.lst ys)) qs L :=
  ⟨h.1, fun i q e => by
    obtain ⟨o, h1, h2⟩ := h.2 i q e
    refine ⟨o, h1, ?_⟩
    unfold OffAt
    rw [upd_ne (ne_of h2 hU (by intro q; cases q))]
    exact h2⟩
def sp_l_board (_ : PySem.W.Frag) : Sp := fun vs H Q _ => ∃ (p l : Addr) (n : Int) (k : Nat) (many upto : Int), vs = [.ref p, .int (k : Int), .int many, .int upto] ∧ Deck H p l n ∧ 0 ≤ n ∧ n ≤ 900000 ∧ 2 ≤ k ∧ k ≤ 4 ∧ 0 ≤ many ∧ many ≤ 40 ∧ 1 ≤ upto ∧ upto ≤ 30 ∧
  ∀ H' d L n', Fr p l H H' → Deck H' p l n' → n ≤ n' → n' ≤ n + 200 → BoardAt H' d k L → (∀ o ∈ L, OfOk k o) → (L.length : Int) ≤ many → (0 < many → 0 < L.length) → Q (.ref d) H'
section
variable {P : Program} {w : World} {K : PySem.W.Frag} {mg : Str → Option Value} {base : Heap}
abbrev s_l_deck : Stmt := topS 27
abbrev N_l_deck : List Str := ["_law_script", "_law_cell"]
theorem sc_l_deck : FnScope N_l_deck ["_law_script"] (defScope s_l_deck) := ⟨rfl, rfl, rfl, by decide +kernel, rfl, by decide +kernel, by decide +kernel⟩
theorem ok_l_deck (T : Txt mg) (D : Df K mg "_law_deck" s_l_deck ["_law_script"]) : Cal P w K mg base "_law_deck" ["_law_script"] 1 (sp_l_deck K) := by
  refine D.cal sc_l_deck (fun vs H Q E h => ?_) (fun f cdv A outer s H vs Q E hr h => ?_)
  · obtain ⟨a, ns, rfl, _⟩ := h
    rfl
  obtain ⟨a, ns, rfl, hS, hlen, k⟩ := h
  refine ⟨_, (pss_one (ps_ret (pe_lst (pa_cons (pe_lc (own := [("_law_cell", 1)]) (g := gName 1) (tt := tYes) rfl sc_l_deck.nd (pi_list (pe_slice sl_list (pv 0) po_none (po_some pe_int))) (blkOk_by (own := [("_law_cell", 1)]) (N := N_l_deck) (sc := defScope s_l_deck) (by decide +kernel)) (fun _ _ _ _ _ => pg_name (i := 1) sc_l_deck.nd rfl (Or.inl rfl)) (fun _ _ _ _ _ => pts_nil) (fun _ _ _ _ _ => (pe_callB call_abs (by rfl) T.n_abs (by decide +kernel) (pa_cons (pv 1) pa_nil)))) (pa_cons pe_int pa_nil))))), ?_⟩
  refine ⟨_, rfl, _, rfl, a, _, rfl, hS, fun c nc => ?_⟩
  rw [cut63 hlen]
  have s1 := same_upd (o := .lst (ns.map V.int)) nc
  refine ⟨c, rfl, ⟨_, SqL.of upd_same⟩, fun D nD => ?_⟩
  have s2 := s1.trans (same_upd (o := .lst []) nD)
  have hc2 : upd (upd H c (.lst (ns.map V.int))) D (.lst []) c = some (.lst (ns.map V.int)) := same_upd nD _ _ upd_same
  refine lc_list (K := K) (a := c) (xs := ns.map V.int) (fun i H' => Same H H' ∧ H' c = some (.lst (ns.map V.int)) ∧ c ≠ D ∧ H D = none ∧ H' D = some (.lst (((ns.take i).map absI).map V.int)))
    ⟨s2, hc2, ne_of_none upd_same nD, s1.free nD, upd_same⟩ (fun i H' _ h => SqL.of h.2.1) ?_ ?_
  · rintro i x H' hx ⟨sm, hc, ncD, nD0, hD⟩
    rw [List.getElem?_map] at hx
    cases e : ns[i]? with
    | none => rw [e] at hx; cases hx
    | some y =>
      rw [e] at hx
      have ex : x = .int y := (Option.some.inj hx).symm
      subst ex
      refine ⟨rfl, ?_⟩
      unfold tYes
      refine iteT ?_
      refine ⟨_, rfl, _, rfl, _, hD, ?_, ?_⟩
      · rw [List.length_map, List.length_map, List.length_take]
        exact Nat.lt_of_le_of_lt (Nat.min_le_right _ _) (small1000 (by omega))
      · refine ⟨fun b o e => ?_, ?_, ncD, nD0, ?_⟩
        · rw [upd_ne (ne_of_none e nD0)]
          exact sm _ _ e
        · rw [upd_ne ncD]
          exact hc
        · rw [upd_same, List.take_add_one, e, List.map_append, List.map_append]
          rfl
  · rintro H' ⟨sm, hc, ncD, nD0, hD⟩
    refine ⟨(by show 2 ≤ sizeLine; decide), fun p np => ?_⟩
    have s3 := sm.trans (same_upd (o := .lst [.ref D, .int 0]) np)
    refine k _ p D s3 ⟨upd_same, _, (same_upd np) _ _ hD, fun c hc => ?_, ?_⟩
    · obtain ⟨y, _, rfl⟩ := List.mem_map.mp hc
      exact absI_pos y
    · rw [List.length_map, List.length_take]
      omega
abbrev s_l_draw : Stmt := topS 28
abbrev N_l_draw : List Str := ["_law_deck_here", "_law_many", "_law_place", "_law_cell", "_law_mixed"]
theorem sc_l_draw : FnScope N_l_draw ["_law_deck_here", "_law_many"] (defScope s_l_draw) := ⟨rfl, rfl, rfl, by decide +kernel, rfl, by decide +kernel, by decide +kernel⟩
theorem ok_l_draw (T : Txt mg) (D : Df K mg "_law_draw" s_l_draw ["_law_deck_here", "_law_many"]) : Cal P w K mg base "_law_draw" ["_law_deck_here", "_law_many"] 1 (sp_l_draw K) := by
  refine D.cal sc_l_draw (fun vs H Q E h => ?_) (fun f cdv A outer s H vs Q E hr h => ?_)
  · obtain ⟨p, l, n, m, rfl, _⟩ := h
    rfl
  obtain ⟨p, l, n, m, rfl, D, n0, n1, m0, m1, k⟩ := h
  obtain ⟨cells, hl, hc⟩ := D.hl
  have npl : p ≠ l := ne_of D.hp hl deck_ne
  refine ⟨_, (pss_cons (ps_asg (pe_op op_add (pe_ix ix_list (pv 0) pe_int (fun _ _ => rfl)) pe_int) (pg_sub (pv 0) pe_int set_list))
    (pss_cons (ps_set (i := 2) sc_l_draw.nd rfl (Or.inl rfl) (pe_op op_modN (pe_callTy call_int1 (by rfl) T.n_int (by decide +kernel) (pa_cons (pe_ix ix_list (pv 0) pe_int (fun _ _ => rfl)) pa_nil)) (pe_callB (call_max2 rfl) (by rfl) T.n_max (by decide +kernel) (pa_cons pe_int (pa_cons (pe_callB call_len_seq (by rfl) T.n_len (by decide +kernel) (pa_cons (pe_ix ix_list (pv 0) pe_int (fun _ _ => rfl)) pa_nil)) pa_nil)))))
    (pss_cons (ps_set (i := 3) sc_l_draw.nd rfl (Or.inl rfl) (pe_ix ix_list (pe_op op_cat (pe_ix ix_list (pv 0) pe_int (fun _ _ => rfl)) (pe_lst (pa_cons pe_int pa_nil))) (pv 2) (fun _ _ => rfl)))
    (pss_cons (ps_if (pt_cmpR op_ge (pv 3) (pe_op op_pow pe_int pe_int) (nomark _)) (pss_cons (ps_asg (pe_op op_fdivW (pv 3) (pv 1)) (pg_sub (pe_ix ix_list (pv 0) pe_int (fun _ _ => rfl)) (pv 2) set_list))
    (pss_one (ps_ret (pe_op op_modN (pe_callTy call_int1 (by rfl) T.n_int (by decide +kernel) (pa_cons (pv 3) pa_nil)) (pv 1))))) pss_nil)
    (pss_cons (ps_set (i := 4) sc_l_draw.nd rfl (Or.inl rfl) (pe_op op_pow (pe_op op_add (pe_op op_add (pe_op op_modN (pe_callTy call_int1 (by rfl) T.n_int (by decide +kernel) (pa_cons (pv 3) pa_nil)) pe_int) (pe_op op_mul pe_int (pe_ix ix_list (pv 0) pe_int (fun _ _ => rfl)))) pe_int) pe_int))
    (pss_one (ps_ret (pe_op op_modN (pe_callTy call_int1 (by rfl) T.n_int (by decide +kernel) (pa_cons (pe_op op_modN (pe_callTy call_int1 (by rfl) T.n_int (by decide +kernel) (pa_cons (pv 4) pa_nil)) pe_int) pa_nil)) (pv 1))))))))), ?_⟩
  refine ⟨_, rfl, _, _, _, _, rfl, rfl, SqL.of D.hp, atI_nat (j := 1) rfl, _, _, rfl, rfl, _, rfl, _, _, _, _, rfl, rfl, D.hp, rfl, ?_⟩
  generalize hH0 : upd H p (HO.lst (List.set [V.ref l, V.int n] (Int.toNat 1) ((fun i j => V.int (i + j)) n 1))) = H0
  have hH0 : upd H p (.lst [.ref l, .int (n + 1)]) = H0 := hH0
  have f0 : Fr p l H H0 := fun b o h1 _ h => by rw [← hH0, upd_ne h1]; exact h
  have hl0 : H0 l = some (.lst (cells.map V.int)) := by rw [← hH0, upd_ne npl.symm]; exact hl
  have hp0 : H0 p = some (.lst [.ref l, .int (n + 1)]) := by rw [← hH0, upd_same]
  -- place
  have big : (if ((cells.map V.int).length : Int) > 1 then ((cells.map V.int).length : Int) else 1) = max 1 (cells.length : Int) := by
    rw [List.length_map]
    split <;> omega
  have fm : (n + 1).fmod (max 1 (cells.length : Int)) = (n + 1) % (max 1 (cells.length : Int)) := fmod_pos (by omega)
  have q0 : 0 ≤ (n + 1).fmod (max 1 (cells.length : Int)) := by rw [fm]; exact Int.emod_nonneg _ (by omega)
  have q1 : (n + 1).fmod (max 1 (cells.length : Int)) < max 1 (cells.length : Int) := by rw [fm]; exact Int.emod_lt_of_pos _ (by omega)
  refine ⟨_, rfl, _, _, _, _, rfl, rfl, SqL.of hp0, atI_nat (j := 1) rfl, .inl ⟨_, rfl, _, rfl, _, _, _, _, rfl, rfl, SqL.of hp0, atI_nat (j := 0) rfl, _, _, rfl, .inl (SqL.of hl0), _, _, rfl, _, _, rfl, rfl, (by rw [big]; omega), ?_⟩⟩
  have z : ∀ B : Int → Prop, B ((n + 1).fmod (max 1 (cells.length : Int))) → B ((n + 1).fmod (if ((cells.map V.int).length : Int) > 1 then ((cells.map V.int).length : Int) else 1)) := fun B h => by rw [big]; exact h
  refine z (fun y => gName 2 (.int y) _ _ _) ?_
  clear z
  -- cell
  refine ⟨_, rfl, _, _, _, _, rfl, rfl, SqL.of hp0, atI_nat (j := 0) rfl, (by show 1 ≤ sizeLine; decide), fun t nt => ?_⟩
  have st := same_upd (o := .lst [.int 0]) nt
  have hp1 := st _ _ hp0
  have hl1 := st _ _ hl0
  have f1 := f0.trans (Same.fr (p := p) (l := l) st)
  obtain ⟨hc, h63⟩ := hc
  have ln : (cells.map V.int).length = cells.length := List.length_map ..
  refine ⟨_, _, _, _, rfl, rfl, hl1, upd_same, (by rw [ln]; exact Nat.le_trans (by omega : cells.length + 1 ≤ 64) (by decide)), fun t2 nt2 => ?_⟩
  have st2 := same_upd (o := .lst (cells.map V.int ++ [.int 0])) nt2
  have hp2 := st2 _ _ hp1
  have hl2 := st2 _ _ hl1
  have f2 := f1.trans (Same.fr (p := p) (l := l) st2)
  have ht2 : upd (upd H0 t (.lst [.int 0])) t2 (.lst (cells.map V.int ++ [.int 0])) t2 = some (.lst ((cells ++ [0]).map V.int)) := by rw [upd_same, List.map_append]; rfl
  generalize upd (upd H0 t (HO.lst [V.int 0])) t2 (HO.lst (cells.map V.int ++ [V.int 0])) = H2 at hp2 hl2 f2 ht2 ⊢
  have q2 : ((n + 1).fmod (max 1 (cells.length : Int))).toNat < (cells ++ [0]).length := by rw [List.length_append, List.length_singleton]; omega
  have q3 : (n + 1).fmod (max 1 (cells.length : Int)) = (((n + 1).fmod (max 1 (cells.length : Int))).toNat : Int) := by omega
  generalize (n + 1).fmod (max 1 (cells.length : Int)) = pl at q0 q1 q2 q3 ⊢
  have q4 : ((cells ++ [0]).map V.int)[pl.toNat]? = some (.int (cells ++ [0])[pl.toNat]) := by
    rw [List.getElem?_map, List.getElem?_eq_getElem q2]
    rfl
  have c0 : 0 ≤ (cells ++ [0])[pl.toNat] := by
    rcases List.mem_append.mp (List.getElem_mem q2) with q | q
    · exact hc _ q
    · rw [List.mem_singleton.mp q]
      decide
  have inside : 1000000000000000000 ≤ (cells ++ [0])[pl.toNat] → pl.toNat < cells.length := by
    intro q
    by_cases e : pl.toNat < cells.length
    · exact e
    · rw [List.getElem_append_right (by omega)] at q
      simp at q
  generalize (cells ++ [0])[pl.toNat] = c at q4 c0 inside ⊢
  refine ⟨_, rfl, _, _, _, _, rfl, rfl, SqL.of ht2, at_of q3 q4, ?_⟩
  refine ⟨_, rfl, _, _, rfl, rfl, ⟨by decide, by decide, by decide⟩, _, _, rfl, rfl, _, rfl, ite3 (fun e => ?_) (fun e => ?_)⟩
  · have e : 1000000000000000000 ≤ c := e
    have p1 := inside e
    have ix : ixN (cells.map V.int).length pl = some pl.toNat := by
      unfold ixN
      rw [if_pos q0, if_pos (by omega)]
    refine ⟨_, rfl, _, rfl, _, _, rfl, rfl, div_draw m0 m1, _, rfl, _, _, _, _, rfl, rfl, SqL.of hp2, atI_nat (j := 0) rfl, _, rfl, _, _, _, _, rfl, rfl, hl2, ix, ?_⟩
    refine ⟨_, rfl, .inl ⟨_, rfl, _, rfl, _, _, rfl, rfl, (by omega), ?_⟩⟩
    have fm : c.fmod m = c % m := fmod_pos m0
    refine k _ _ (by rw [fm]; exact Int.emod_nonneg _ (by omega)) (by rw [fm]; exact Int.emod_lt_of_pos _ m0) (f2.trans fun b o _ h2 h => by rw [upd_ne h2]; exact h) ⟨by rw [upd_ne npl]; exact hp2, cells.set pl.toNat (c / m), by rw [upd_same, List.map_set], fun y hy => ?_, by rw [List.length_set]; exact h63⟩
    rcases List.mem_or_eq_of_mem_set hy with q | q
    · exact hc y q
    · rw [q]; exact Int.ediv_nonneg c0 (by omega)
  · refine ⟨_, rfl, .inl ⟨_, rfl, _, _, rfl, rfl, (show (2147483587 : Int) ≠ 0 by decide), _, rfl, _, _, _, _, rfl, rfl, SqL.of hp2, atI_nat (j := 1) rfl, _, _, rfl, rfl, .inl ⟨by decide, by decide⟩, _, _, rfl, rfl, _, _, rfl, rfl, ?_⟩⟩
    have fm : c.fmod 2147483587 = c % 2147483587 := fmod_pos (by decide)
    have h0 := Int.emod_nonneg c (show (2147483587 : Int) ≠ 0 by decide)
    have h1 := Int.emod_lt_of_pos c (show (0 : Int) < 2147483587 by decide)
    refine ⟨_, _, rfl, rfl, ⟨by decide, by decide, by rw [fm]; omega⟩, ?_⟩
    refine ⟨_, rfl, .inl ⟨_, rfl, _, _, rfl, rfl, (show (2147483647 : Int) ≠ 0 by decide), .inl ⟨_, rfl, _, rfl, _, _, rfl, rfl, (by omega), ?_⟩⟩⟩
    refine k _ _ ?_ ?_ f2 ⟨hp2, cells, hl2, hc, h63⟩
    · rw [fmod_pos m0]; exact Int.emod_nonneg _ (by omega)
    · rw [fmod_pos m0]; exact Int.emod_lt_of_pos _ m0
end
end Sm

set_option Elab.async false
set_option linter.all false
set_option maxRecDepth 100000
set_option maxHeartbeats 8000000
namespace Sm
open PySem PySem.Spec PyProof.Rows L2
open C8 (pss_cut tCut)
def ofNs : List Int → Of
  | [a, x, b, y] => ⟨a.toNat, x, b.toNat, y⟩
  | _ => ⟨0, 0, 0, 0⟩
theorem ofNs_ns (o : Of) : ofNs o.ns = o := by
  cases o
  rfl
theorem offs_of {H : Hp} (L' : List (Addr × List Int)) (h : ∀ p ∈ L', ∃ o : Of, p.2 = o.ns ∧ OffAt H p.1 o) : OffsAt H (L'.map (·.1)) (L'.map fun p => ofNs p.2) := by
  refine ⟨by rw [List.length_map, List.length_map], fun i q e => ?_⟩
  rw [List.getElem?_map] at e
  cases z : L'[i]? with
  | none => rw [z] at e; cases e
  | some p =>
    rw [z] at e
    have e : p.1 = q := Option.some.inj e
    obtain ⟨o, h1, h2⟩ := h p (List.mem_of_getElem? z)
    refine ⟨o, ?_, by rw [← e]; exact h2⟩
    rw [List.getElem?_map, z]
    show some (ofNs p.2) = some o
    rw [h1, ofNs_ns]
theorem bd_ns {k : Nat} {o : Of} (h : OfOk k o) (k4 : k ≤ 4) : o.ns.length = 4 ∧ TS.Bd 100 o.ns := by
  refine ⟨rfl, fun m hm => ?_⟩
  have h1 := h.a
  have h2 := h.b
  have h3 := h.x0
  have h4 := h.x1
  have h5 := h.y0
  have h6 := h.y1
  simp only [Of.ns, List.mem_cons, List.not_mem_nil, or_false] at hm
  rcases hm with rfl | rfl | rfl | rfl <;> omega
theorem nodup_le : ∀ (l m : List (List Int)), l.Nodup → (∀ x ∈ l, x ∈ m) → l.length ≤ m.length
  | [], m, _, _ => Nat.zero_le _
  | a :: l, m, nd, h => by
    obtain ⟨na, nd⟩ := List.nodup_cons.mp nd
    have ha := h a (List.mem_cons_self ..)
    have := nodup_le l (m.erase a) nd fun x hx => by
      refine (List.mem_erase_of_ne ?_).mpr (h x (List.mem_cons_of_mem _ hx))
      rintro rfl
      exact na hx
    rw [List.length_erase_of_mem ha] at this
    have : 0 < m.length := List.length_pos_of_mem ha
    rw [List.length_cons]
    omega
/-- tuple(sorted(set(..))) of offers, told for the list that stands at U -/
theorem set_board {K : PySem.W.Frag} {P : Program} {w : World} {H : Hp} {U : Addr} {ks : List (Addr × Of)} {k : Nat} (hU : H U = some (.lst (ks.map fun e => V.ref e.1))) (hk : ∀ e ∈ ks, OffAt H e.1 e.2 ∧ OfOk k e.2) (k4 : k ≤ 4) (h64 : ks.length < 64)
    {Q : VK} (q : ∀ H' t (qs : List Addr) (L : List Of), Same H H' → H' t = some (.tup (qs.map V.ref)) → OffsAt H' qs L → (∀ o ∈ L, OfOk k o) → L.length ≤ ks.length → (0 < ks.length → 0 < L.length) → Q (.ref t) H') :
    rSetOfT K P w [.ref U] H fun x H1 => rSortedT K P w [x] H1 fun y H2 => ∃ (q : Addr) (xs : List V), [y] = [V.ref q] ∧ ((SqL K H2 q xs ∧ ∀ t, H2 t = none → Q (.ref t) (upd H2 t (.tup xs))) ∨ SqT K H2 q xs ∧ Q (.ref q) H2) := by
  have lm : (ks.map fun e => (e.1, e.2.ns)).map (fun p : Addr × List Int => V.ref p.1) = ks.map fun e => V.ref e.1 := by
    rw [List.map_map]
    rfl
  refine ⟨U, ks.map fun e => (e.1, e.2.ns), rfl, ?_, fun p hp => ?_, by rw [List.length_map]; exact h64, fun a L na hL hM => ?_⟩
  · rw [lm]
    exact SqL.of hU
  · obtain ⟨e, he, rfl⟩ := List.mem_map.mp hp
    exact SqT.of (hk e he).1
  have sa := same_upd (o := SetTO P w a L) na
  have own : ∀ p ∈ L, ∃ e ∈ ks, p = (e.1, e.2.ns) := fun p hp => by
    obtain ⟨e, he, h⟩ := List.mem_map.mp (hL p hp)
    exact ⟨e, he, h.symm⟩
  refine ⟨a, L, 4, 100, rfl, upd_same, fun p hp => ?_, by decide, fun p hp => ?_, fun L' r pm nd l64 pw nr => ?_⟩
  · obtain ⟨e, he, rfl⟩ := own p hp
    exact SqT.of (sa _ _ (hk e he).1)
  · obtain ⟨e, he, rfl⟩ := own p hp
    exact bd_ns (hk e he).2 k4
  have sr := same_upd (o := .lst (L'.map fun q => V.ref q.1)) nr
  refine ⟨r, _, rfl, .inl ⟨SqL.of upd_same, fun t nt => ?_⟩⟩
  have st := same_upd (o := .tup (L'.map fun q => V.ref q.1)) nt
  have s := sa.trans (sr.trans st)
  refine q _ t (L'.map (·.1)) (L'.map fun p => ofNs p.2) s (by rw [upd_same, List.map_map]; rfl) (offs_of L' fun p hp => ?_) (fun o ho => ?_) (by
    rw [List.length_map]
    have := nodup_le (L'.map (·.2)) (ks.map fun e => e.2.ns) nd fun x hx => by
      obtain ⟨p, hp, rfl⟩ := List.mem_map.mp hx
      obtain ⟨e, he, rfl⟩ := own p (pm.mem_iff.mp hp)
      exact List.mem_map.mpr ⟨e, he, rfl⟩
    rwa [List.length_map, List.length_map] at this) (fun k0 => by
    obtain ⟨e, he⟩ := List.exists_mem_of_length_pos k0
    have m := hM (e.1, e.2.ns) (List.mem_map.mpr ⟨e, he, rfl⟩)
    obtain ⟨p, hp, _⟩ := List.mem_map.mp m
    rw [List.length_map]
    exact List.length_pos_of_mem (pm.mem_iff.mpr hp))
  · obtain ⟨e, he, rfl⟩ := own p (pm.mem_iff.mp hp)
    exact ⟨e.2, rfl, s _ _ (hk e he).1⟩
  · obtain ⟨p, hp, rfl⟩ := List.mem_map.mp ho
    obtain ⟨e, he, rfl⟩ := own p (pm.mem_iff.mp hp)
    show OfOk k (ofNs e.2.ns)
    rw [ofNs_ns]
    exact (hk e he).2
/-- the offers found so far -/
def BW (p l U : Addr) (k : Nat) (upto top n : Int) (H : Hp) (i : Nat) (σ : L2.St) (H' : Hp) : Prop := ∃ (n' : Int) (ks : List (Addr × Of)) (v5 v6 v7 : Option V), σ = [some (.ref p), some (.int (k : Int)), some (.int upto), some (.int top), some (.ref U), v5, v6, v7] ∧ Deck H' p l n' ∧ n ≤ n' ∧ n' ≤ n + 1 + 4 * (i : Int) ∧ Fr p l H H' ∧
      H' U = some (.lst (ks.map fun e => V.ref e.1)) ∧ ks.length = i ∧ ∀ e ∈ ks, OffAt H' e.1 e.2 ∧ OfOk k e.2
theorem BW.more {p l U t : Addr} {k i : Nat} {upto top n n' : Int} {H H7 : Hp} {ks : List (Addr × Of)} {o : Of} {v5 v6 v7 : Option V} (hn : ∀ b o, H b = some o → b ≠ U) (Up : U ≠ p) (Ul : U ≠ l) (D : Deck H7 p l n') (n0 : n ≤ n') (n1 : n' ≤ n + 5 + 4 * (i : Int)) (f : Fr p l H H7)
    (hU : H7 U = some (.lst (ks.map fun e => V.ref e.1))) (kl : ks.length = i) (old : ∀ e ∈ ks, OffAt H7 e.1 e.2 ∧ OfOk k e.2) (ht : OffAt H7 t o) (ho : OfOk k o) :
    BW p l U k upto top n H (i + 1) [some (.ref p), some (.int (k : Int)), some (.int upto), some (.int top), some (.ref U), v5, v6, v7] (upd H7 U (.lst ((ks.map fun e => V.ref e.1) ++ [.ref t]))) := by
  have neU : ∀ b xs, H7 b = some (.tup xs) → b ≠ U := fun b xs hb => ne_of hb hU (by intro q; cases q)
  refine ⟨n', ks ++ [(t, o)], v5, v6, v7, rfl, ⟨by rw [upd_ne Up.symm]; exact D.hp, ?_⟩, n0, by omega, ?_, ?_, ?_, ?_⟩
  · obtain ⟨cells, q1, q2⟩ := D.hl
    exact ⟨cells, by rw [upd_ne Ul.symm]; exact q1, q2⟩
  · intro b o h1 h2 hb
    rw [upd_ne (hn b o hb)]
    exact f b o h1 h2 hb
  · rw [upd_same, List.map_append]
    rfl
  · rw [List.length_append, List.length_singleton, kl]
  · intro e he
    rcases List.mem_append.mp he with he | he
    · refine ⟨?_, (old e he).2⟩
      unfold OffAt
      rw [upd_ne (neU _ _ (old e he).1)]
      exact (old e he).1
    · rw [List.mem_singleton.mp he]
      refine ⟨?_, ho⟩
      unfold OffAt
      rw [upd_ne (neU _ _ ht)]
      exact ht
section
variable {P : Program} {w : World} {K : PySem.W.Frag} {mg : Str → Option Value} {base : Heap}
abbrev s_l_board : Stmt := topS 29
abbrev N_l_board : List Str := ["_law_deck_here", "_law_kinds", "_law_many", "_law_upto", "_law_found", "_law_turn", "_law_a", "_law_b"]
theorem sc_l_board : FnScope N_l_board ["_law_deck_here", "_law_kinds", "_law_many", "_law_upto"] (defScope s_l_board) := ⟨rfl, rfl, rfl, by decide +kernel, rfl, by decide +kernel, by decide +kernel⟩
theorem ok_l_board (T : Txt mg) (D : Df K mg "_law_board" s_l_board ["_law_deck_here", "_law_kinds", "_law_many", "_law_upto"]) (C_l_draw : Cal P w K mg base "_law_draw" ["_law_deck_here", "_law_many"] 1 (sp_l_draw K)) : Cal P w K mg base "_law_board" ["_law_deck_here", "_law_kinds", "_law_many", "_law_upto"] 2 (sp_l_board K) := by
  obtain ⟨f_l_draw, fd_l_draw, G_l_draw, m_l_draw, k_l_draw, b_l_draw⟩ := C_l_draw
  refine D.cal sc_l_board (fun vs H Q E h => ?_) (fun f cdv A outer s H vs Q E hr h => ?_)
  · obtain ⟨p, l, n, k, upto, top, rfl, _⟩ := h
    rfl
  obtain ⟨p, l, n, k, upto, top, rfl, D0, n0, n1, k2, k4, u0, u1, t0, t1, kk⟩ := h
  refine ⟨_, (pss_cons (ps_set (i := 4) sc_l_board.nd rfl (Or.inl rfl) (pe_lst pa_nil))
    (pss_cons (ps_for PassesOwn.never rfl (pi_range1 (by rfl) T.n_range (pa_cons (pv 2) pa_nil)) (pg_name (i := 5) sc_l_board.nd rfl (Or.inl rfl))
      (pss_cons (ps_set (i := 6) sc_l_board.nd rfl (Or.inl rfl) (pe_call G_l_draw (hr.mono (by decide)) (by rfl) m_l_draw k_l_draw b_l_draw .nil pass0 (pa_cons (pv 0) (pa_cons (pv 1) pa_nil))))
    (pss_cons (ps_set (i := 7) sc_l_board.nd rfl (Or.inl rfl) (pe_op op_modN (pe_callTy call_int1 (by rfl) T.n_int (by decide +kernel) (pa_cons (pe_op op_add (pe_op op_add (pv 6) pe_int) (pe_call G_l_draw (hr.mono (by decide)) (by rfl) m_l_draw k_l_draw b_l_draw .nil pass0 (pa_cons (pv 0) (pa_cons (pe_op op_sub (pv 1) pe_int) pa_nil)))) pa_nil)) (pv 1)))
    (pss_one (ps_expr (pe_bm PySem.F.plainAttrs_list PySem.F.slot_list_append PySem.F.type_list_append mt_append (pv 4) (pa_cons (pe_tup (pa_cons (pv 6) (pa_cons (pe_op op_add pe_int (pe_call G_l_draw (hr.mono (by decide)) (by rfl) m_l_draw k_l_draw b_l_draw .nil pass0 (pa_cons (pv 0) (pa_cons (pv 3) pa_nil)))) (pa_cons (pv 7) (pa_cons (pe_call G_l_draw (hr.mono (by decide)) (by rfl) m_l_draw k_l_draw b_l_draw .nil pass0 (pa_cons (pv 0) (pa_cons (pe_op op_add (pv 3) pe_int) pa_nil))) pa_nil))))) pa_nil)))))))
    (pss_one (ps_ret (pe_tup (pa_cons (pv 1) (pa_cons (pe_callTy call_tuple_of (by rfl) T.n_tuple (by decide +kernel) (pa_cons (pe_callB (cr_sortedT rfl) (by rfl) T.n_sorted (by decide +kernel) (pa_cons (pe_callTy (cr_setOfT rfl hr.units) (by rfl) T.n_set (by decide +kernel) (pa_cons (pv 4) pa_nil)) pa_nil)) pa_nil)) pa_nil))))))), ?_⟩
  refine ⟨(by show 0 ≤ sizeLine; decide), fun U nU => ?_⟩
  obtain ⟨Up, Ul⟩ := D0.lne nU
  have sU := same_upd (o := .lst []) nU
  refine ⟨_, rfl, upto, rfl, (by omega), (by omega), ?_⟩
  have hn : ∀ b o, H b = some o → b ≠ U := fun b o hb => ne_of_none hb nU
  refine for_range (lo := 0) (n := _) (BW p l U k upto top n H)
    ⟨n, [], none, none, none, rfl, D0.same sU, by omega, by omega, Same.fr sU, upd_same, rfl, fun e he => nomatch he⟩ ?_ ?_
  · rintro i σ H2 hi ⟨n', ks, v5, v6, v7, rfl, D2, m0, m1, f2, hU, kl, hk⟩
    have hi : i < upto.toNat := hi
    have hi : i ≤ 40 := by omega
    refine ⟨_, rfl, _, rfl, p, l, n', _, rfl, D2, by omega, by omega, by omega, by omega, fun ra H3 a0 a1 f3 D3 => ?_⟩
    refine ⟨_, rfl, _, _, rfl, rfl, _, rfl, _, rfl, _, _, rfl, rfl, p, l, n' + 1, _, rfl, D3, by omega, by omega, by omega, by omega, fun rb H4 b0 b1 f4 D4 => ?_⟩
    refine ⟨_, _, rfl, rfl, .inl ⟨_, rfl, _, rfl, _, _, rfl, rfl, (show (k : Int) ≠ 0 by omega), ?_⟩⟩
    have fm : (ra + 1 + rb).fmod (k : Int) = (ra + 1 + rb) % (k : Int) := fmod_pos (by omega)
    have c0 : 0 ≤ (ra + 1 + rb).fmod (k : Int) := by rw [fm]; exact Int.emod_nonneg _ (by omega)
    have c1 : (ra + 1 + rb).fmod (k : Int) < (k : Int) := by rw [fm]; exact Int.emod_lt_of_pos _ (by omega)
    have cn : (ra + 1 + rb).fmod (k : Int) ≠ ra := by
      rw [fm]
      obtain rfl | rfl | rfl : k = 2 ∨ k = 3 ∨ k = 4 := by omega
      · show (ra + 1 + rb) % 2 ≠ ra
        have b1 : rb < 2 - 1 := b1
        have a1 : ra < 2 := a1
        omega
      · show (ra + 1 + rb) % 3 ≠ ra
        have b1 : rb < 3 - 1 := b1
        have a1 : ra < 3 := a1
        omega
      · show (ra + 1 + rb) % 4 ≠ ra
        have b1 : rb < 4 - 1 := b1
        have a1 : ra < 4 := a1
        omega
    have hU4 := f4 U _ Up Ul (f3 U _ Up Ul hU)
    refine ⟨_, rfl, .inl ⟨rfl, _, SqL.of hU4⟩, ?_⟩
    refine ⟨_, rfl, _, rfl, _, rfl, p, l, n' + 1 + 1, _, rfl, D4, by omega, by omega, by omega, by omega, fun rx H5 x0 x1 f5 D5 => ?_⟩
    refine ⟨_, _, rfl, rfl, _, rfl, _, rfl, _, rfl, _, _, rfl, rfl, p, l, n' + 1 + 1 + 1, _, rfl, D5, by omega, by omega, by omega, by omega, fun ry H6 y0 y1 f6 D6 => ?_⟩
    refine ⟨(by show 4 ≤ sizeLine; decide), fun t nt => ?_⟩
    have hU6 := f6 U _ Up Ul (f5 U _ Up Ul hU4)
    have ft := f3.trans (f4.trans (f5.trans f6))
    have st := same_upd (o := .tup [.int ra, .int (1 + rx), .int ((ra + 1 + rb).fmod (k : Int)), .int ry]) nt
    refine ⟨U, _, _, rfl, rfl, st _ _ hU6, ?_, ?_⟩
    · rw [List.length_map, kl]
      exact Nat.lt_of_le_of_lt (show i ≤ 40 by omega) (by decide)
    · refine BW.more (n' := n' + 1 + 1 + 1 + 1) (o := ⟨ra.toNat, 1 + rx, ((ra + 1 + rb).fmod (k : Int)).toNat, ry⟩) hn Up Ul (D6.same st) (by omega) (by omega) (f2.trans (ft.trans (Same.fr st))) (st _ _ hU6) kl (fun e he => ?_) ?_ ?_
      · exact ⟨st _ _ (ft.tup D2 (hk e he).1), (hk e he).2⟩
      · show upd H6 t _ t = some (.tup [.int (ra.toNat : Int), .int (1 + rx), .int (((ra + 1 + rb).fmod (k : Int)).toNat : Int), .int ry])
        rw [Int.toNat_of_nonneg a0, Int.toNat_of_nonneg c0]
        exact upd_same
      · exact ⟨by show ra.toNat < k; omega, by show Int.toNat _ < k; omega, by show ra.toNat ≠ Int.toNat _; omega, by show 1 ≤ 1 + rx; omega, by show 1 + rx ≤ 30; omega, y0, by show ry ≤ 30; omega⟩
  · rintro σ H2 ⟨n', ks, v5, v6, v7, rfl, D2, m0, m1, f2, hU, kl, hk⟩
    have ku : (ks.length : Int) ≤ 40 := by rw [kl]; show ((upto.toNat : Nat) : Int) ≤ 40; omega
    refine ⟨_, rfl, _, rfl, ?_⟩
    refine set_board (K := K) (P := P) (w := w) (Q := fun v H1 => [V.int (k : Int), v].length ≤ sizeLine ∧ ∀ p, H1 p = none → Q (.ref p) (upd H1 p (.tup [.int (k : Int), v]))) hU hk k4 (by omega) fun H3 t qs L s3 ht hL ok l64 l0 => ⟨(by show 2 ≤ sizeLine; decide), fun d nd => ?_⟩
    have sd := same_upd (o := .tup [.int (k : Int), .ref t]) nd
    have ku2 : (ks.length : Int) = upto := by rw [kl]; show ((upto.toNat : Nat) : Int) = upto; omega
    exact kk _ d L n' (f2.trans (Same.fr (s3.trans sd))) ((D2.same s3).same sd) (by omega) (by omega) ⟨t, qs, upd_same, sd _ _ ht, hL.same sd⟩ ok (by omega) (fun m0 => l0 (by omega))
end
end Sm

set_option Elab.async false
set_option linter.all false
set_option maxRecDepth 100000
set_option maxHeartbeats 8000000
namespace Sm
open PySem PySem.Spec PyProof.Rows L2
open C8 (pss_cut tCut)
theorem ixN_nat {n a : Nat} (h : a < n) : ixN n (a : Int) = some a := by
  unfold ixN
  rw [if_pos (by omega), if_pos (by omega)]
  rfl
theorem vget {k i : Nat} {f : Nat → Int} (h : i < k) : ((vec k f).map V.int)[i]? = some (.int (f i)) := by
  rw [List.getElem?_map, vec_get h]
  rfl
theorem zeros (k : Nat) : (List.replicate ((k : Nat) : Int).toNat [V.int 0]).flatten = (vec k fun _ => 0).map V.int := by
  rw [Int.toNat_natCast, List.flatten_replicate_singleton, ← vec_rep, List.map_replicate]
theorem vset {k i : Nat} {f g : Nat → Int} {v : Int} (h : g i = v) (hg : ∀ j, j ≠ i → g j = f j) : ((vec k f).map V.int).set i (V.int v) = (vec k g).map V.int := by
  rw [← vec_set (k := k) h hg, List.map_set]
/-! ### ways in the heap -/
theorem OffsAt.get {H : Hp} {qs : List Addr} {L : List Of} {i : Nat} (h : OffsAt H qs L) (hi : i < L.length) : ∃ q, (qs.map V.ref)[i]? = some (.ref q) ∧ OffAt H q (ofI L i) := by
  have hl := h.1
  obtain ⟨o, h1, h2⟩ := h.2 i qs[i] (List.getElem?_eq_getElem (by omega))
  refine ⟨qs[i], by rw [List.getElem?_map, List.getElem?_eq_getElem (by omega)]; rfl, ?_⟩
  rw [ofI_at h1]
  exact h2
def RunAt (H : Hp) (q : Addr) (r : Nat × Int) : Prop := H q = some (.tup [.int (r.1 : Int), .int r.2])
def RunsAt (H : Hp) (qs : List Addr) (rs : List (Nat × Int)) : Prop := qs.length = rs.length ∧ ∀ (i : Nat) (q : Addr), qs[i]? = some q → ∃ r, rs[i]? = some r ∧ RunAt H q r
def StAt (H : Hp) (q : Addr) : St → Prop
  | .run i m => RunAt H q (i, m)
  | .rnd rs m => ∃ (t : Addr) (qs : List Addr), H q = some (.tup [.ref t, .int m]) ∧ H t = some (.tup (qs.map V.ref)) ∧ RunsAt H qs rs
def StsAt (H : Hp) (qs : List Addr) (ss : List St) : Prop := qs.length = ss.length ∧ ∀ (i : Nat) (q : Addr), qs[i]? = some q → ∃ s, ss[i]? = some s ∧ StAt H q s
def WayAt (H : Hp) (w : Addr) (ss : List St) : Prop := ∃ qs : List Addr, H w = some (.tup (qs.map V.ref)) ∧ StsAt H qs ss
theorem RunsAt.mono {H H' : Hp} {qs : List Addr} {rs : List (Nat × Int)} (h : RunsAt H qs rs) (s : ∀ b xs, H b = some (.tup xs) → H' b = some (.tup xs)) : RunsAt H' qs rs :=
  ⟨h.1, fun i q e => by obtain ⟨r, h1, h2⟩ := h.2 i q e; exact ⟨r, h1, s _ _ h2⟩⟩
theorem StAt.mono {H H' : Hp} {q : Addr} {s : St} (h : StAt H q s) (k : ∀ b xs, H b = some (.tup xs) → H' b = some (.tup xs)) : StAt H' q s := by
  match s, h with
  | .run i m, h => exact k _ _ h
  | .rnd rs m, ⟨t, qs, h1, h2, h3⟩ => exact ⟨t, qs, k _ _ h1, k _ _ h2, h3.mono k⟩
theorem StsAt.mono {H H' : Hp} {qs : List Addr} {ss : List St} (h : StsAt H qs ss) (k : ∀ b xs, H b = some (.tup xs) → H' b = some (.tup xs)) : StsAt H' qs ss :=
  ⟨h.1, fun i q e => by obtain ⟨r, h1, h2⟩ := h.2 i q e; exact ⟨r, h1, h2.mono k⟩⟩
theorem WayAt.mono {H H' : Hp} {w : Addr} {ss : List St} (h : WayAt H w ss) (k : ∀ b xs, H b = some (.tup xs) → H' b = some (.tup xs)) : WayAt H' w ss := by
  obtain ⟨qs, h1, h2⟩ := h
  exact ⟨qs, k _ _ h1, h2.mono k⟩
theorem WayAt.same {H H' : Hp} {w : Addr} {ss : List St} (h : WayAt H w ss) (s : Same H H') : WayAt H' w ss := h.mono fun b xs e => s _ _ e
theorem WayAt.fr {H H' : Hp} {w a l : Addr} {n : Int} {ss : List St} (h : WayAt H w ss) (f : Fr a l H H') (D : Deck H a l n) : WayAt H' w ss := h.mono fun b xs e => f.tup D e
theorem RunsAt.way {H : Hp} {qs : List Addr} {rs : List (Nat × Int)} (h : RunsAt H qs rs) : StsAt H qs (asWay rs) := by
  refine ⟨by unfold asWay; rw [List.length_map]; exact h.1, fun i q e => ?_⟩
  obtain ⟨r, h1, h2⟩ := h.2 i q e
  refine ⟨.run r.1 r.2, ?_, h2⟩
  unfold asWay
  rw [List.getElem?_map, h1]
  rfl
/-- a need and a change -/
def TlAt (H : Hp) (p : Addr) (k : Nat) (t : Tl) : Prop := ∃ n c : Addr, H p = some (.tup [.ref n, .ref c]) ∧ H n = some (.tup ((vec k t.n).map V.int)) ∧ H c = some (.tup ((vec k t.c).map V.int))
def sp_run_tally (_ : PySem.W.Frag) : Sp := fun vs H Q _ => ∃ (d q : Addr) (k : Nat) (L : List Of) (r : Nat × Int), vs = [.ref d, .ref q] ∧ BoardAt H d k L ∧ (∀ o ∈ L, OfOk k o) ∧ k ≤ 4 ∧ RunAt H q r ∧ r.1 < L.length ∧
  ∀ H' p, Same H H' → TlAt H' p k (runT (ofI L r.1) r.2) → Q (.ref p) H'
/-- a step that a call can walk: depth 0, a run; depth 1, a round as well -/
def StD (L : List Of) : St → Prop
  | .run i _ => i < L.length
  | .rnd rs _ => (∀ r ∈ rs, r.1 < L.length) ∧ ∀ j, -(18446744073709551616) < (runsT L rs).c j ∧ (runsT L rs).c j < 18446744073709551616
def St0 : St → Prop
  | .run _ _ => True
  | .rnd _ _ => False
def sp_stepG (R : St → Prop) : Sp := fun vs H Q _ => ∃ (d q : Addr) (k : Nat) (L : List Of) (s : St), vs = [.ref d, .ref q] ∧ BoardAt H d k L ∧ (∀ o ∈ L, OfOk k o) ∧ k ≤ 4 ∧ StAt H q s ∧ StD L s ∧ R s ∧
  ∀ H' p, Same H H' → TlAt H' p k (stT L s) → Q (.ref p) H'
def sp_wayG (R : St → Prop) : Sp := fun vs H Q _ => ∃ (d w : Addr) (k : Nat) (L : List Of) (ss : List St), vs = [.ref d, .ref w] ∧ BoardAt H d k L ∧ (∀ o ∈ L, OfOk k o) ∧ k ≤ 4 ∧ WayAt H w ss ∧ (∀ s ∈ ss, StD L s ∧ R s) ∧
  ∀ H' p, Same H H' → TlAt H' p k (wayT L ss) → Q (.ref p) H'
def sp_step_tally (_ : PySem.W.Frag) : Sp := sp_stepG fun _ => True
def sp_way_tally (_ : PySem.W.Frag) : Sp := sp_wayG fun _ => True
def sp_need_of (_ : PySem.W.Frag) : Sp := fun vs H Q _ => ∃ (d w : Addr) (k : Nat) (L : List Of) (ss : List St), vs = [.ref d, .ref w] ∧ BoardAt H d k L ∧ (∀ o ∈ L, OfOk k o) ∧ k ≤ 4 ∧ WayAt H w ss ∧ (∀ s ∈ ss, StD L s) ∧
  ∀ H' p, Same H H' → H' p = some (.tup ((vec k (wayT L ss).n).map V.int)) → Q (.ref p) H'
def sp_change_of (_ : PySem.W.Frag) : Sp := fun vs H Q _ => ∃ (d w : Addr) (k : Nat) (L : List Of) (ss : List St), vs = [.ref d, .ref w] ∧ BoardAt H d k L ∧ (∀ o ∈ L, OfOk k o) ∧ k ≤ 4 ∧ WayAt H w ss ∧ (∀ s ∈ ss, StD L s) ∧
  ∀ H' p, Same H H' → H' p = some (.tup ((vec k (wayT L ss).c).map V.int)) → Q (.ref p) H'
def RnW (d q : Addr) (i : Nat) (m : Int) (o : Of) (k : Nat) (H : Hp) (N C : Addr) (f g : Nat → Int) (σ : L2.St) (H' : Hp) : Prop := σ = [some (.ref d), some (.ref q), some (.int (i : Int)), some (.int m), some (.int (o.a : Int)), some (.int o.x), some (.int (o.b : Int)), some (.int o.y), some (.ref N), some (.ref C)] ∧
  Same H H' ∧ H N = none ∧ H C = none ∧ N ≠ C ∧ H' N = some (.lst ((vec k f).map V.int)) ∧ H' C = some (.lst ((vec k g).map V.int))
section
variable {P : Program} {w : World} {K : PySem.W.Frag} {mg : Str → Option Value} {base : Heap}
abbrev s_run_tally : Stmt := topS 25
abbrev N_run_tally : List Str := ["board", "run", "index", "times", "a", "x", "b", "y", "need", "change"]
theorem sc_run_tally : FnScope N_run_tally ["board", "run"] (defScope s_run_tally) := ⟨rfl, rfl, rfl, by decide +kernel, rfl, by decide +kernel, by decide +kernel⟩
theorem ok_run_tally (T : Txt mg) (D : Df K mg "run_tally" s_run_tally ["board", "run"]) : Cal P w K mg base "run_tally" ["board", "run"] 1 (sp_run_tally K) := by
  refine D.cal sc_run_tally (fun vs H Q E h => ?_) (fun f cdv A outer s H vs Q E hr h => ?_)
  · obtain ⟨d, q, k, L, r, rfl, _⟩ := h
    rfl
  obtain ⟨d, q, k, L, ⟨i, m⟩, rfl, B, ok, k4, hq, il, kk⟩ := h
  obtain ⟨t, qs, hd, ht, hL⟩ := id B
  have il : i < L.length := il
  obtain ⟨b, hb, hO⟩ := hL.get il
  have oo := ok _ (ofI_mem il)
  have x0 := oo.x0
  have x1 := oo.x1
  have y0 := oo.y0
  have y1 := oo.y1
  generalize ofI L i = o at *
  have hO : H b = some (.tup [.int (o.a : Int), .int o.x, .int (o.b : Int), .int o.y]) := hO
  refine ⟨_, (pss_cons (ps_asg (pv 1) (pg_tup (by rfl) (pgs_cons (pg_name (i := 2) sc_run_tally.nd rfl (Or.inl rfl)) (pgs_cons (pg_name (i := 3) sc_run_tally.nd rfl (Or.inl rfl)) pgs_nil))))
    (pss_cons (ps_asg (pe_ix ix_tup (pe_ix ix_tup (pv 0) pe_int (fun _ _ => rfl)) (pv 2) (fun _ _ => rfl)) (pg_tup (by rfl) (pgs_cons (pg_name (i := 4) sc_run_tally.nd rfl (Or.inl rfl)) (pgs_cons (pg_name (i := 5) sc_run_tally.nd rfl (Or.inl rfl)) (pgs_cons (pg_name (i := 6) sc_run_tally.nd rfl (Or.inl rfl)) (pgs_cons (pg_name (i := 7) sc_run_tally.nd rfl (Or.inl rfl)) pgs_nil))))))
    (pss_cons (ps_set (i := 8) sc_run_tally.nd rfl (Or.inl rfl) (pe_op op_rep (pe_lst (pa_cons pe_int pa_nil)) (pe_ix ix_tup (pv 0) pe_int (fun _ _ => rfl))))
    (pss_cut (ps_set (i := 9) sc_run_tally.nd rfl (Or.inl rfl) (pe_op op_rep (pe_lst (pa_cons pe_int pa_nil)) (pe_ix ix_tup (pv 0) pe_int (fun _ _ => rfl))))
    (pss_cut (ps_asg (pe_op op_mul (pv 3) (pv 5)) (pg_sub (pv 8) (pv 4) set_list))
    (pss_cut (ps_asg (pe_op op_mul (pe_un un_neg (pv 3)) (pv 5)) (pg_sub (pv 9) (pv 4) set_list))
    (pss_cons (ps_asg (pe_op op_mul (pv 3) (pv 7)) (pg_sub (pv 9) (pv 6) set_list))
    (pss_one (ps_ret (pe_tup (pa_cons (pe_callTy call_tuple_of (by rfl) T.n_tuple (by decide +kernel) (pa_cons (pv 8) pa_nil)) (pa_cons (pe_callTy call_tuple_of (by rfl) T.n_tuple (by decide +kernel) (pa_cons (pv 9) pa_nil)) pa_nil)))))))))))), ?_⟩
  refine ⟨_, rfl, q, _, rfl, SqT.of hq, rfl, _, _, rfl, _, _, rfl, rfl, ?_⟩
  refine ⟨_, rfl, _, _, _, _, rfl, rfl, SqT.of hd, atI_nat (j := 1) rfl, _, rfl, _, _, _, _, rfl, rfl, SqT.of ht, atI_nat (j := i) hb, b, _, rfl, SqT.of hO, rfl, _, _, rfl, _, _, rfl, _, _, rfl, _, _, rfl, rfl, ?_⟩
  refine ⟨(by show 1 ≤ sizeLine; decide), fun z nz => ?_⟩
  have sz := same_upd (o := .lst [.int 0]) nz
  refine ⟨_, rfl, _, _, _, _, rfl, rfl, SqT.of (sz _ _ hd), atI_nat (j := 0) rfl, z, _, _, rfl, rfl, upd_same, by omega, by omega, (by show 1 * ((k : Nat) : Int).toNat ≤ sizeLine; exact Nat.le_trans (by omega : 1 * ((k : Nat) : Int).toNat ≤ 4) (by decide)), fun N nN => ?_⟩
  have sN := same_upd (o := .lst (List.replicate ((k : Nat) : Int).toNat [V.int 0]).flatten) nN
  have hN : upd (upd H z (.lst [.int 0])) N (.lst (List.replicate ((k : Nat) : Int).toNat [V.int 0]).flatten) N = some (.lst ((vec k fun _ => 0).map V.int)) := by rw [upd_same, zeros]
  have sa := sz.trans sN
  have freeN : H N = none := by
    cases e : H N with
    | none => rfl
    | some u =>
      rw [sz _ _ e] at nN
      cases nN
  generalize upd (upd H z (.lst [.int 0])) N (.lst (List.replicate ((k : Nat) : Int).toNat [V.int 0]).flatten) = H1 at hN sa ⊢
  clear sz sN nN nz
  refine ⟨fun σ H' => ∃ C, RnW d q i m o k H N C (fun _ => 0) (fun _ => 0) σ H', ?_, ?_⟩
  · refine ⟨(by show 1 ≤ sizeLine; decide), fun z nz => ?_⟩
    have sz := same_upd (o := .lst [.int 0]) nz
    refine ⟨_, rfl, _, _, _, _, rfl, rfl, SqT.of (sz _ _ (sa _ _ hd)), atI_nat (j := 0) rfl, z, _, _, rfl, rfl, upd_same, by omega, by omega, (by show 1 * ((k : Nat) : Int).toNat ≤ sizeLine; exact Nat.le_trans (by omega : 1 * ((k : Nat) : Int).toNat ≤ 4) (by decide)), fun C nC => ?_⟩
    have sC := same_upd (o := .lst (List.replicate ((k : Nat) : Int).toNat [V.int 0]).flatten) nC
    have freeC : H C = none := by
      cases e : H C with
      | none => rfl
      | some u =>
        rw [sz _ _ (sa _ _ e)] at nC
        cases nC
    refine ⟨C, rfl, sa.trans (sz.trans sC), freeN, freeC, ne_of_none (sz _ _ hN) nC, sC _ _ (sz _ _ hN), ?_⟩
    rw [upd_same, zeros]
  rintro σ H2 ⟨C, rfl, s2, nN, nC, NC, hN2, hC2⟩
  have al : o.a < k := oo.a
  have bl : o.b < k := oo.b
  have ln : ∀ f : Nat → Int, ((vec k f).map V.int).length = k := fun f => by rw [List.length_map, vec_len]
  refine ⟨RnW d q i m o k H N C (fun j => if j = o.a then m * o.x else 0) (fun _ => 0), ?_, ?_⟩
  · refine ⟨_, rfl, _, rfl, _, _, rfl, rfl, .inr ⟨by omega, by omega⟩, _, rfl, _, rfl, _, _, _, _, rfl, rfl, hN2, by rw [ln]; exact ixN_nat al, rfl, fun b' o' e' => ?_, nN, nC, NC, ?_, ?_⟩
    · rw [upd_ne (ne_of_none e' nN)]
      exact s2 _ _ e'
    · rw [upd_same, vset (g := fun j => if j = o.a then m * o.x else 0) (if_pos rfl) fun j hj => if_neg hj]
    · rw [upd_ne NC.symm]
      exact hC2
  rintro σ H3 ⟨rfl, s3, _, _, _, hN3, hC3⟩
  refine ⟨RnW d q i m o k H N C (fun j => if j = o.a then m * o.x else 0) (fun j => if j = o.a then -m * o.x else 0), ?_, ?_⟩
  · refine ⟨_, rfl, _, rfl, _, rfl, _, _, rfl, rfl, .inr ⟨by omega, by omega⟩, _, rfl, _, rfl, _, _, _, _, rfl, rfl, hC3, by rw [ln]; exact ixN_nat al, rfl, fun b' o' e' => ?_, nN, nC, NC, ?_, ?_⟩
    · rw [upd_ne (ne_of_none e' nC)]
      exact s3 _ _ e'
    · rw [upd_ne NC]
      exact hN3
    · rw [upd_same, vset (g := fun j => if j = o.a then -m * o.x else 0) (if_pos rfl) fun j hj => if_neg hj]
  rintro σ H4 ⟨rfl, s4, _, _, _, hN4, hC4⟩
  refine ⟨_, rfl, _, rfl, _, _, rfl, rfl, .inr ⟨by omega, by omega⟩, _, rfl, _, rfl, _, _, _, _, rfl, rfl, hC4, by rw [ln]; exact ixN_nat bl, ?_⟩
  have sT : ∀ b xs, H4 b = some (.tup xs) → upd H4 C (.lst (((vec k fun j => if j = o.a then -m * o.x else 0).map V.int).set o.b (V.int (m * o.y)))) b = some (.tup xs) := fun b xs e => by
    rw [upd_ne (ne_of e hC4 (by intro q; cases q))]
    exact e
  have hN5 : upd H4 C (.lst (((vec k fun j => if j = o.a then -m * o.x else 0).map V.int).set o.b (V.int (m * o.y)))) N = some (.lst ((vec k (runT o m).n).map V.int)) := by
    rw [upd_ne NC]
    exact hN4
  have hC5 : upd H4 C (.lst (((vec k fun j => if j = o.a then -m * o.x else 0).map V.int).set o.b (V.int (m * o.y)))) C = some (.lst ((vec k (runT o m).c).map V.int)) := by
    rw [upd_same, vset (g := (runT o m).c) (if_pos rfl) fun j hj => if_neg hj]
  have s5 : Same H (upd H4 C (.lst (((vec k fun j => if j = o.a then -m * o.x else 0).map V.int).set o.b (V.int (m * o.y))))) := fun b' o' e' => by
    rw [upd_ne (ne_of_none e' nC)]
    exact s4 _ _ e'
  refine ⟨_, rfl, _, _, rfl, .inl ⟨SqL.of hN5, fun n nn => ?_⟩⟩
  have sn := same_upd (o := .tup ((vec k (runT o m).n).map V.int)) nn
  refine ⟨_, rfl, _, _, rfl, .inl ⟨SqL.of (sn _ _ hC5), fun c nc => ?_⟩⟩
  have sc := same_upd (o := .tup ((vec k (runT o m).c).map V.int)) nc
  refine ⟨(by show 2 ≤ sizeLine; decide), fun p np => ?_⟩
  have sp := same_upd (o := .tup [.ref n, .ref c]) np
  exact kk _ p (s5.trans (sn.trans (sc.trans sp))) ⟨n, c, upd_same, sp _ _ (sc _ _ upd_same), sp _ _ upd_same⟩
end
end Sm

set_option Elab.async false
set_option linter.all false
set_option maxRecDepth 100000
set_option maxHeartbeats 8000000
namespace Sm
open PySem PySem.Spec PyProof.Rows L2
open C8 (pss_cut tCut)
theorem max_if (a b : Int) : (if b > a then b else a) = max a b := by
  split <;> omega
theorem ps_no {X : Cx} {st : Stmt} : PS X st (fun _ _ _ => False) := by
  constructor
  intros
  contradiction
section
variable {P : Program} {w : World} {K : PySem.W.Frag} {mg : Str → Option Value} {base : Heap}
abbrev s_way_tally : Stmt := topS 23
abbrev N_way_tally : List Str := ["board", "way", "kinds", "need", "change", "step", "asked", "changed", "kind"]
theorem sc_way_tally : FnScope N_way_tally ["board", "way"] (defScope s_way_tally) := ⟨rfl, rfl, rfl, by decide +kernel, rfl, by decide +kernel, by decide +kernel⟩
theorem ok_wayG {R : St → Prop} {lv : Nat} (T : Txt mg) (D : Df K mg "way_tally" s_way_tally ["board", "way"]) (C_step_tally : Cal P w K mg base "step_tally" ["board", "step"] lv (sp_stepG R)) : Cal P w K mg base "way_tally" ["board", "way"] (lv + 1) (sp_wayG R) := by
  obtain ⟨f_step_tally, fd_step_tally, G_step_tally, m_step_tally, k_step_tally, b_step_tally⟩ := C_step_tally
  refine D.cal sc_way_tally (fun vs H Q E h => ?_) (fun f cdv A outer s H vs Q E hr h => ?_)
  · obtain ⟨d, w, k, L, ss, rfl, _⟩ := h
    rfl
  obtain ⟨d, w, k, L, ss, rfl, B, ok, k4, W, hs, kk⟩ := h
  obtain ⟨t, qs, hd, ht, hL⟩ := id B
  obtain ⟨ws, hw, hS⟩ := id W
  refine ⟨_, (pss_cons (ps_set (i := 2) sc_way_tally.nd rfl (Or.inl rfl) (pe_callTy cr_range1 (by rfl) T.n_range (by decide +kernel) (pa_cons (pe_ix ix_tup (pv 0) pe_int (fun _ _ => rfl)) pa_nil)))
    (pss_cons (ps_set (i := 3) sc_way_tally.nd rfl (Or.inr rfl) (pe_op op_rep0 (pe_tup (pa_cons pe_int pa_nil)) (pe_ix ix_tup (pv 0) pe_int (fun _ _ => rfl))))
    (pss_cons (ps_set (i := 4) sc_way_tally.nd rfl (Or.inr rfl) (pv 3))
    (pss_cut (ps_for PassesOwn.never rfl (pi_tup (pv 1)) (pg_name (i := 5) sc_way_tally.nd rfl (Or.inl rfl))
      (pss_cons (ps_asg (pe_call G_step_tally (hr.mono (Nat.le_refl _)) (by rfl) m_step_tally k_step_tally b_step_tally .nil pass0 (pa_cons (pv 0) (pa_cons (pv 5) pa_nil))) (pg_tup (by rfl) (pgs_cons (pg_name (i := 6) sc_way_tally.nd rfl (Or.inr rfl)) (pgs_cons (pg_name (i := 7) sc_way_tally.nd rfl (Or.inr rfl)) pgs_nil))))
    (pss_cons (ps_set (i := 3) sc_way_tally.nd rfl (Or.inr rfl) (pe_callTy call_tuple_of (by rfl) T.n_tuple (by decide +kernel) (pa_cons (pe_lc (own := [("kind", 8)]) (g := gName 8) (tt := tYes) rfl sc_way_tally.nd (pi_rng (pv 2)) (blkOk_by (own := [("kind", 8)]) (N := N_way_tally) (sc := defScope s_way_tally) (by decide +kernel)) (fun _ _ _ _ _ => pg_name (i := 8) sc_way_tally.nd rfl (Or.inl rfl)) (fun _ _ _ _ _ => pts_nil) (fun _ _ _ _ _ => (pe_callB (call_max2 rfl) (by rfl) T.n_max (by decide +kernel) (pa_cons (pe_ix (show IxR _ (rIxT K) from ix_tup) (pv 3) (pv 8) (fun _ _ => rfl)) (pa_cons (pe_op op_sub (pe_ix (show IxR _ (rIxT K) from ix_tup) (pv 6) (pv 8) (fun _ _ => rfl)) (pe_ix (show IxR _ (rIxT K) from ix_tup) (pv 4) (pv 8) (fun _ _ => rfl))) pa_nil))))) pa_nil)))
    (pss_one (ps_set (i := 4) sc_way_tally.nd rfl (Or.inr rfl) (pe_callTy call_tuple_of (by rfl) T.n_tuple (by decide +kernel) (pa_cons (pe_lc (own := [("kind", 8)]) (g := gName 8) (tt := tYes) rfl sc_way_tally.nd (pi_rng (pv 2)) (blkOk_by (own := [("kind", 8)]) (N := N_way_tally) (sc := defScope s_way_tally) (by decide +kernel)) (fun _ _ _ _ _ => pg_name (i := 8) sc_way_tally.nd rfl (Or.inl rfl)) (fun _ _ _ _ _ => pts_nil) (fun _ _ _ _ _ => (pe_op op_add (pe_ix (show IxR _ (rIxT K) from ix_tup) (pv 4) (pv 8) (fun _ _ => rfl)) (pe_ix (show IxR _ (rIxT K) from ix_tup) (pv 7) (pv 8) (fun _ _ => rfl))))) pa_nil)))))))
    (pss_one (ps_ret (pe_tup (pa_cons (pv 3) (pa_cons (pv 4) pa_nil))))))))), ?_⟩
  refine ⟨_, rfl, _, _, _, _, rfl, rfl, SqT.of hd, atI_nat (j := 0) rfl, _, rfl, fun r nr => ?_⟩
  have s1 := same_upd (o := .rng 0 (k : Int)) nr
  refine ⟨(by show 1 ≤ sizeLine; decide), fun z nz => ?_⟩
  have s2 := same_upd (o := .tup [.int 0]) nz
  refine ⟨_, rfl, _, _, _, _, rfl, rfl, SqT.of (s2 _ _ (s1 _ _ hd)), atI_nat (j := 0) rfl, z, _, _, rfl, rfl, upd_same, (fun q => nomatch q), (by omega), (by omega), (by show 1 ≤ 1000; decide), fun H3 n0 s3 hn0 => ?_⟩
  rw [zeros] at hn0
  have sA := s1.trans (s2.trans s3)
  have hr3 : H3 r = some (.rng 0 (k : Int)) := s3 _ _ (s2 _ _ upd_same)
  clear s1 s2 s3 nr nz
  refine ⟨_, rfl, ?_⟩
  refine ⟨fun σ H' => ∃ (n c : Addr) (v5 v6 v7 : Option V), σ = [some (.ref d), some (.ref w), some (.ref r), some (.ref n), some (.ref c), v5, v6, v7, none] ∧ Same H3 H' ∧ H' n = some (.tup ((vec k (wayT L ss).n).map V.int)) ∧ H' c = some (.tup ((vec k (wayT L ss).c).map V.int)), ?_, ?_⟩
  · refine ⟨_, rfl, w, rfl, ⟨_, SqT.of (sA _ _ hw)⟩, ?_⟩
    refine for_tup (K := K) (a := w) (xs := ws.map V.ref) (fun j σ H' => ∃ (n c : Addr) (v5 v6 v7 : Option V), σ = [some (.ref d), some (.ref w), some (.ref r), some (.ref n), some (.ref c), v5, v6, v7, none] ∧ Same H3 H' ∧ H' n = some (.tup ((vec k (wayT L (ss.take j)).n).map V.int)) ∧ H' c = some (.tup ((vec k (wayT L (ss.take j)).c).map V.int)))
      ⟨n0, n0, none, none, none, rfl, Same.refl _, hn0, hn0⟩ (fun j σ H' _ h => by obtain ⟨_, _, _, _, _, _, s', _⟩ := h; exact SqT.of (s' _ _ (sA _ _ hw))) ?_ ?_
    · rintro j x σ H4 hx ⟨n, c, v5, v6, v7, rfl, s4, hn, hc⟩
      rw [List.getElem?_map] at hx
      cases e : ws[j]? with
      | none => rw [e] at hx; cases hx
      | some q =>
        rw [e] at hx
        have ex : x = .ref q := (Option.some.inj hx).symm
        subst ex
        obtain ⟨st, hst, hq⟩ := hS.2 j q e
        have sB := sA.trans s4
        have hh := hs st (List.mem_of_getElem? hst)
        refine ⟨_, rfl, _, rfl, d, q, k, L, st, rfl, B.same sB, ok, k4, hq.mono fun b xs e => sB _ _ e, hh.1, hh.2, fun H5 p s5 tl => ?_⟩
        obtain ⟨an, ac, hp, han, hac⟩ := tl
        refine ⟨p, _, rfl, SqT.of hp, rfl, _, _, rfl, _, _, rfl, rfl, ?_⟩
        have hn5 := s5 _ _ hn
        have hc5 := s5 _ _ hc
        have hr5 := s5 _ _ (s4 _ _ hr3)
        have cnt : ((k : Int) - 0).toNat = k := by omega
        -- the need
        refine ⟨_, rfl, r, _, _, rfl, hr5, fun U nU => ?_⟩
        have sU := same_upd (o := .lst []) nU
        rw [cnt]
        refine lc_range (lo := 0) (n := k) (fun i H' => Same H5 H' ∧ H' U = some (.lst ((vec i ((wayT L (ss.take j)).seq (stT L st)).n).map V.int))) ⟨sU, upd_same⟩ ?_ ?_
        · rintro i H6 hi ⟨s6, hU⟩
          refine ⟨rfl, ?_⟩
          unfold tYes
          refine iteT ?_
          refine ⟨_, rfl, _, rfl, _, _, _, _, rfl, rfl, SqT.of (s6 _ _ hn5), at_of (j := i) (Int.zero_add _) (vget hi), _, rfl, _, rfl, _, _, _, _, rfl, rfl, SqT.of (s6 _ _ han), at_of (j := i) (Int.zero_add _) (vget hi), _, rfl, _, rfl, _, _, _, _, rfl, rfl, SqT.of (s6 _ _ hc5), at_of (j := i) (Int.zero_add _) (vget hi), _, _, rfl, rfl, _, _, rfl, _, hU, ?_, fun b o e' => ?_, ?_⟩
          · rw [List.length_map, vec_len]
            exact Nat.lt_of_le_of_lt (show i ≤ 4 by omega) (by decide)
          · rw [upd_ne (ne_of_none e' nU)]
            exact s6 _ _ e'
          · rw [upd_same, vec_succ, List.map_append]
            show some (HO.lst (_ ++ [V.int (if _ > _ then _ else _)])) = some (HO.lst (_ ++ [V.int (max _ _)]))
            rw [max_if]
        rintro H6 ⟨s6, hU⟩
        refine ⟨_, _, rfl, .inl ⟨SqL.of hU, fun n' nn' => ?_⟩⟩
        have s7 := same_upd (o := .tup ((vec k ((wayT L (ss.take j)).seq (stT L st)).n).map V.int)) nn'
        have hn7 : upd H6 n' (.tup ((vec k ((wayT L (ss.take j)).seq (stT L st)).n).map V.int)) n' = some (.tup ((vec k ((wayT L (ss.take j)).seq (stT L st)).n).map V.int)) := upd_same
        have s57 := s6.trans s7
        generalize upd H6 n' (.tup ((vec k ((wayT L (ss.take j)).seq (stT L st)).n).map V.int)) = H7 at s57 hn7 ⊢
        clear s6 s7 hU sU nU nn'
        have hc7 := s57 _ _ hc5
        have hac7 := s57 _ _ hac
        -- the change
        refine ⟨_, rfl, r, _, _, rfl, s57 _ _ hr5, fun U nU => ?_⟩
        have sU := same_upd (o := .lst []) nU
        rw [cnt]
        refine lc_range (lo := 0) (n := k) (fun i H' => Same H7 H' ∧ H' U = some (.lst ((vec i ((wayT L (ss.take j)).seq (stT L st)).c).map V.int))) ⟨sU, upd_same⟩ ?_ ?_
        · rintro i H8 hi ⟨s8, hU⟩
          refine ⟨rfl, ?_⟩
          unfold tYes
          refine iteT ?_
          refine ⟨_, rfl, _, rfl, _, _, _, _, rfl, rfl, SqT.of (s8 _ _ hc7), at_of (j := i) (Int.zero_add _) (vget hi), _, rfl, _, rfl, _, _, _, _, rfl, rfl, SqT.of (s8 _ _ hac7), at_of (j := i) (Int.zero_add _) (vget hi), _, _, rfl, rfl, _, hU, ?_, fun b o e' => ?_, ?_⟩
          · rw [List.length_map, vec_len]
            exact Nat.lt_of_le_of_lt (show i ≤ 4 by omega) (by decide)
          · rw [upd_ne (ne_of_none e' nU)]
            exact s8 _ _ e'
          · rw [upd_same, vec_succ, List.map_append]
            rfl
        rintro H8 ⟨s8, hU⟩
        refine ⟨_, _, rfl, .inl ⟨SqL.of hU, fun c' nc' => ?_⟩⟩
        have s9 := same_upd (o := .tup ((vec k ((wayT L (ss.take j)).seq (stT L st)).c).map V.int)) nc'
        refine ⟨n', c', _, _, _, rfl, s4.trans (s5.trans (s57.trans (s8.trans s9))), ?_, ?_⟩
        · rw [wayT_take hst]
          exact s9 _ _ (s8 _ _ hn7)
        · rw [wayT_take hst]
          exact upd_same
    · rintro σ H4 ⟨n, c, v5, v6, v7, rfl, s4, hn, hc⟩
      rw [List.length_map, hS.1, List.take_length] at hn hc
      exact ⟨n, c, _, _, _, rfl, s4, hn, hc⟩
  · rintro σ H4 ⟨n, c, v5, v6, v7, rfl, s4, hn, hc⟩
    refine ⟨_, rfl, _, rfl, (by show 2 ≤ sizeLine; decide), fun p np => ?_⟩
    have sp := same_upd (o := .tup [.ref n, .ref c]) np
    exact kk _ p (sA.trans (s4.trans sp)) ⟨n, c, upd_same, sp _ _ hn, sp _ _ hc⟩
abbrev s_step_tally : Stmt := topS 24
abbrev N_step_tally : List Str := ["board", "step", "runs", "times", "need", "change", "most", "kind", "more"]
theorem sc_step_tally : FnScope N_step_tally ["board", "step"] (defScope s_step_tally) := ⟨rfl, rfl, rfl, by decide +kernel, rfl, by decide +kernel, by decide +kernel⟩
/-- a run alone -/
theorem ok_step0 (T : Txt mg) (D : Df K mg "step_tally" s_step_tally ["board", "step"]) (C_run_tally : Cal P w K mg base "run_tally" ["board", "run"] 1 (sp_run_tally K)) : Cal P w K mg base "step_tally" ["board", "step"] 2 (sp_stepG St0) := by
  obtain ⟨f_run_tally, fd_run_tally, G_run_tally, m_run_tally, k_run_tally, b_run_tally⟩ := C_run_tally
  refine D.cal sc_step_tally (fun vs H Q E h => ?_) (fun f cdv A outer s H vs Q E hr h => ?_)
  · obtain ⟨d, q, k, L, st, rfl, _⟩ := h
    rfl
  obtain ⟨d, q, k, L, st, rfl, B, ok, k4, hq, hd, h0, kk⟩ := h
  obtain ⟨i, m, rfl⟩ : ∃ i m, st = .run i m := by
    cases st with
    | run i m => exact ⟨i, m, rfl⟩
    | rnd rs m => exact h0.elim
  have hq : H q = some (.tup [.int (i : Int), .int m]) := hq
  refine ⟨_, (pss_cons (ps_if (pt_not (pt_val (pe_callB call_isi (by rfl) T.n_isinstance (by decide +kernel) (pa_cons (pe_ix ix_tup (pv 1) pe_int (fun _ _ => rfl)) (pa_cons (pe_bltn (v := .ty "tuple") (by rfl) T.n_tuple (by decide +kernel) rfl) pa_nil))))) (pss_one (ps_ret (pe_call G_run_tally (hr.mono (by decide)) (by rfl) m_run_tally k_run_tally b_run_tally .nil pass0 (pa_cons (pv 0) (pa_cons (pv 1) pa_nil))))) pss_nil)
    (pss_cons ps_no (pss_cons ps_no (pss_cons ps_no (pss_one ps_no))))), ?_⟩
  refine ⟨_, rfl, _, _, _, _, rfl, rfl, SqT.of hq, atI_nat (j := 0) rfl, _, _, _, _, _, rfl, .ty "tuple", .base (.int _), kit_ty (b := "tuple") (r := false) (by decide +kernel), _, rfl, iteT ?_⟩
  exact ⟨_, rfl, _, rfl, d, q, k, L, (i, m), rfl, B, ok, k4, hq, hd, kk⟩
/-- any step -/
theorem ok_step_tally (T : Txt mg) (D : Df K mg "step_tally" s_step_tally ["board", "step"]) (C_run_tally : Cal P w K mg base "run_tally" ["board", "run"] 1 (sp_run_tally K)) (C_way_tally : Cal P w K mg base "way_tally" ["board", "way"] 3 (sp_wayG St0)) : Cal P w K mg base "step_tally" ["board", "step"] 4 (sp_step_tally K) := by
  obtain ⟨f_run_tally, fd_run_tally, G_run_tally, m_run_tally, k_run_tally, b_run_tally⟩ := C_run_tally
  obtain ⟨f_way_tally, fd_way_tally, G_way_tally, m_way_tally, k_way_tally, b_way_tally⟩ := C_way_tally
  refine D.cal sc_step_tally (fun vs H Q E h => ?_) (fun f cdv A outer s H vs Q E hr h => ?_)
  · obtain ⟨d, q, k, L, st, rfl, _⟩ := h
    rfl
  obtain ⟨d, q, k, L, st, rfl, B, ok, k4, hq, hd, h0, kk⟩ := h
  refine ⟨_, (pss_cons (ps_if (pt_not (pt_val (pe_callB call_isi (by rfl) T.n_isinstance (by decide +kernel) (pa_cons (pe_ix ix_tup (pv 1) pe_int (fun _ _ => rfl)) (pa_cons (pe_bltn (v := .ty "tuple") (by rfl) T.n_tuple (by decide +kernel) rfl) pa_nil))))) (pss_one (ps_ret (pe_call G_run_tally (hr.mono (by decide)) (by rfl) m_run_tally k_run_tally b_run_tally .nil pass0 (pa_cons (pv 0) (pa_cons (pv 1) pa_nil))))) pss_nil)
    (pss_cons (ps_asg (pv 1) (pg_tup (by rfl) (pgs_cons (pg_name (i := 2) sc_step_tally.nd rfl (Or.inl rfl)) (pgs_cons (pg_name (i := 3) sc_step_tally.nd rfl (Or.inr rfl)) pgs_nil))))
    (pss_cons (ps_asg (pe_call G_way_tally (hr.mono (by decide)) (by rfl) m_way_tally k_way_tally b_way_tally .nil pass0 (pa_cons (pv 0) (pa_cons (pv 2) pa_nil))) (pg_tup (by rfl) (pgs_cons (pg_name (i := 4) sc_step_tally.nd rfl (Or.inr rfl)) (pgs_cons (pg_name (i := 5) sc_step_tally.nd rfl (Or.inr rfl)) pgs_nil))))
    (pss_cons (ps_setLc (i := 6) (own := [("kind", 7)]) (g := gName 7) (tt := tYes) rfl sc_step_tally.nd rfl rfl (sw_true rfl rfl rfl (by decide +kernel)) (pi_range1 (by rfl) T.n_range (pa_cons (pe_ix ix_tup (pv 0) pe_int (fun _ _ => rfl)) pa_nil)) (blkOk_by (own := [("kind", 7)]) (N := N_step_tally) (sc := defScope s_step_tally) (by decide +kernel)) (fun _ _ _ _ _ => pg_name (i := 7) sc_step_tally.nd rfl (Or.inl rfl)) (fun _ _ _ _ _ => pts_nil) (fun _ _ _ _ _ => (pe_callB (call_max2 rfl) (by rfl) T.n_max (by decide +kernel) (pa_cons (pe_ix (show IxR _ (rIxT K) from ix_tup) (pv 4) (pv 7) (fun _ _ => rfl)) (pa_cons (pe_op op_sub (pe_ix (show IxR _ (rIxT K) from ix_tup) (pv 4) (pv 7) (fun _ _ => rfl)) (pe_op op_mul (pe_op op_sub (pv 3) pe_int) (pe_ix (show IxR _ (rIxT K) from ix_tup) (pv 5) (pv 7) (fun _ _ => rfl)))) pa_nil)))))
    (pss_one (ps_ret (pe_tup (pa_cons (pe_callTy call_tuple_of (by rfl) T.n_tuple (by decide +kernel) (pa_cons (pv 6) pa_nil)) (pa_cons (pe_callTy call_tuple_of (by rfl) T.n_tuple (by decide +kernel) (pa_cons (pe_lc (own := [("more", 8)]) (g := gName 8) (tt := tYes) rfl sc_step_tally.nd (pi_tup (pv 5)) (blkOk_by (own := [("more", 8)]) (N := N_step_tally) (sc := defScope s_step_tally) (by decide +kernel)) (fun _ _ _ _ _ => pg_name (i := 8) sc_step_tally.nd rfl (Or.inl rfl)) (fun _ _ _ _ _ => pts_nil) (fun _ _ _ _ _ => (pe_op op_mul (pv 3) (pv 8)))) pa_nil)) pa_nil))))))))), ?_⟩
  cases st with
  | run i m =>
    have hq : H q = some (.tup [.int (i : Int), .int m]) := hq
    refine ⟨_, rfl, _, _, _, _, rfl, rfl, SqT.of hq, atI_nat (j := 0) rfl, _, _, _, _, _, rfl, .ty "tuple", .base (.int _), kit_ty (b := "tuple") (r := false) (by decide +kernel), _, rfl, iteT ?_⟩
    exact ⟨_, rfl, _, rfl, d, q, k, L, (i, m), rfl, B, ok, k4, hq, hd, kk⟩
  | rnd rs m =>
    obtain ⟨t, qs, hq, ht, hR⟩ := hq
    obtain ⟨hi, hb⟩ := hd
    obtain ⟨tb, qb, hdb, _, _⟩ := id B
    refine ⟨_, rfl, _, _, _, _, rfl, rfl, SqT.of hq, atI_nat (j := 0) rfl, _, _, _, _, _, rfl, .ty "tuple", .base (.tup ht), kit_ty (b := "tuple") (r := true) (by decide +kernel), _, rfl, iteF ?_⟩
    refine ⟨_, rfl, _, _, rfl, SqT.of hq, rfl, _, _, rfl, _, _, rfl, rfl, ?_⟩
    refine ⟨_, rfl, _, rfl, d, t, k, L, asWay rs, rfl, B, ok, k4, ⟨qs, ht, hR.way⟩, fun s hs => ?_, fun H1 p s1 tl => ?_⟩
    · obtain ⟨r, hr', rfl⟩ := List.mem_map.mp hs
      exact ⟨hi r hr', True.intro⟩
    rw [asWay_T] at tl
    obtain ⟨an, ac, hp, han, hac⟩ := tl
    refine ⟨p, _, rfl, SqT.of hp, rfl, _, _, rfl, _, _, rfl, rfl, ?_⟩
    refine ⟨_, rfl, _, _, _, _, rfl, rfl, SqT.of (s1 _ _ hdb), atI_nat (j := 0) rfl, _, rfl, (by omega), (by omega), fun U nU => ?_⟩
    have sU := same_upd (o := .lst []) nU
    refine lc_range (lo := 0) (n := _) (fun i H' => Same H1 H' ∧ H' U = some (.lst ((vec i ((runsT L rs).rnd m).n).map V.int))) ⟨sU, upd_same⟩ ?_ ?_
    · rintro i H2 hi ⟨s2, hU⟩
      have hi : i < ((k : Nat) : Int).toNat := hi
      rw [Int.toNat_natCast] at hi
      refine ⟨rfl, ?_⟩
      unfold tYes
      refine iteT ?_
      have hbi := hb i
      refine ⟨_, rfl, _, rfl, _, _, _, _, rfl, rfl, SqT.of (s2 _ _ han), at_of (j := i) (Int.zero_add _) (vget hi), _, rfl, _, rfl, _, _, _, _, rfl, rfl, SqT.of (s2 _ _ han), at_of (j := i) (Int.zero_add _) (vget hi), _, rfl, _, _, rfl, rfl, _, rfl, _, rfl, _, _, _, _, rfl, rfl, SqT.of (s2 _ _ hac), at_of (j := i) (Int.zero_add _) (vget hi), _, _, rfl, rfl, .inr ⟨by omega, by omega⟩, _, _, rfl, rfl, _, _, rfl, _, hU, ?_, fun b o e' => ?_, ?_⟩
      · rw [List.length_map, vec_len]
        exact Nat.lt_of_le_of_lt (show i ≤ 4 by omega) (by decide)
      · rw [upd_ne (ne_of_none e' nU)]
        exact s2 _ _ e'
      · rw [upd_same, vec_succ, List.map_append]
        show some (HO.lst (_ ++ [V.int (if _ > _ then _ else _)])) = some (HO.lst (_ ++ [V.int (max _ _)]))
        rw [max_if]
    rintro H2 ⟨s2, hU⟩
    rw [Int.toNat_natCast] at hU
    refine ⟨_, rfl, _, _, rfl, .inl ⟨SqL.of hU, fun n nn => ?_⟩⟩
    have sn := same_upd (o := .tup ((vec k ((runsT L rs).rnd m).n).map V.int)) nn
    have hac3 := sn _ _ (s2 _ _ hac)
    have hn3 : upd H2 n (.tup ((vec k ((runsT L rs).rnd m).n).map V.int)) n = some (.tup ((vec k ((runsT L rs).rnd m).n).map V.int)) := upd_same
    have s3 := s1.trans (s2.trans sn)
    generalize upd H2 n (.tup ((vec k ((runsT L rs).rnd m).n).map V.int)) = H3 at hac3 hn3 s3 ⊢
    clear sn s2 hU sU nU nn
    refine ⟨_, rfl, ac, rfl, ⟨_, SqT.of hac3⟩, fun U nU => ?_⟩
    have sU := same_upd (o := .lst []) nU
    refine lc_tup (K := K) (a := ac) (xs := (vec k (runsT L rs).c).map V.int) (fun i H' => Same H3 H' ∧ H' U = some (.lst ((vec i ((runsT L rs).rnd m).c).map V.int))) ⟨sU, upd_same⟩ (fun i H' _ h => SqT.of (h.1 _ _ hac3)) ?_ ?_
    · rintro i x H4 hx ⟨s4, hU⟩
      have hi : i < k := by
        have := (List.getElem?_eq_some_iff.mp hx).1
        rw [List.length_map, vec_len] at this
        exact this
      rw [vget hi] at hx
      have ex := (Option.some.inj hx).symm
      subst ex
      refine ⟨rfl, ?_⟩
      unfold tYes
      refine iteT ?_
      have hbi := hb i
      refine ⟨_, rfl, _, rfl, _, _, rfl, rfl, .inr ⟨by omega, by omega⟩, _, hU, ?_, fun b o e' => ?_, ?_⟩
      · rw [List.length_map, vec_len]
        exact Nat.lt_of_le_of_lt (show i ≤ 4 by omega) (by decide)
      · rw [upd_ne (ne_of_none e' nU)]
        exact s4 _ _ e'
      · rw [upd_same, vec_succ, List.map_append]
        rfl
    rintro H4 ⟨s4, hU⟩
    rw [List.length_map, vec_len] at hU
    refine ⟨_, _, rfl, .inl ⟨SqL.of hU, fun c nc => ?_⟩⟩
    have sc := same_upd (o := .tup ((vec k ((runsT L rs).rnd m).c).map V.int)) nc
    refine ⟨(by show 2 ≤ sizeLine; decide), fun p' np' => ?_⟩
    have sp := same_upd (o := .tup [.ref n, .ref c]) np'
    exact kk _ p' (s3.trans (s4.trans (sc.trans sp))) ⟨n, c, upd_same, sp _ _ (sc _ _ (s4 _ _ hn3)), sp _ _ upd_same⟩
abbrev s_need_of : Stmt := topS 21
abbrev N_need_of : List Str := ["board", "way"]
theorem sc_need_of : FnScope N_need_of ["board", "way"] (defScope s_need_of) := ⟨rfl, rfl, rfl, by decide +kernel, rfl, by decide +kernel, by decide +kernel⟩
theorem ok_need_of (T : Txt mg) (D : Df K mg "need_of" s_need_of ["board", "way"]) (C_way_tally : Cal P w K mg base "way_tally" ["board", "way"] 5 (sp_way_tally K)) : Cal P w K mg base "need_of" ["board", "way"] 6 (sp_need_of K) := by
  obtain ⟨f_way_tally, fd_way_tally, G_way_tally, m_way_tally, k_way_tally, b_way_tally⟩ := C_way_tally
  refine D.cal sc_need_of (fun vs H Q E h => ?_) (fun f cdv A outer s H vs Q E hr h => ?_)
  · obtain ⟨d, w, k, L, ss, rfl, _⟩ := h
    rfl
  obtain ⟨d, w, k, L, ss, rfl, B, ok, k4, W, hs, kk⟩ := h
  refine ⟨_, (pss_one (ps_ret (pe_ix ix_tup (pe_call G_way_tally (hr.mono (by decide)) (by rfl) m_way_tally k_way_tally b_way_tally .nil pass0 (pa_cons (pv 0) (pa_cons (pv 1) pa_nil))) pe_int (fun _ _ => rfl)))), ?_⟩
  refine ⟨_, rfl, _, rfl, d, w, k, L, ss, rfl, B, ok, k4, W, fun s h => ⟨hs s h, True.intro⟩, fun H1 p s1 tl => ?_⟩
  obtain ⟨n, c, hp, hn, hc⟩ := tl
  exact ⟨_, _, _, _, rfl, rfl, SqT.of hp, atI_nat (j := 0) rfl, kk H1 n s1 hn⟩
abbrev s_change_of : Stmt := topS 22
abbrev N_change_of : List Str := ["board", "way"]
theorem sc_change_of : FnScope N_change_of ["board", "way"] (defScope s_change_of) := ⟨rfl, rfl, rfl, by decide +kernel, rfl, by decide +kernel, by decide +kernel⟩
theorem ok_change_of (T : Txt mg) (D : Df K mg "change_of" s_change_of ["board", "way"]) (C_way_tally : Cal P w K mg base "way_tally" ["board", "way"] 5 (sp_way_tally K)) : Cal P w K mg base "change_of" ["board", "way"] 6 (sp_change_of K) := by
  obtain ⟨f_way_tally, fd_way_tally, G_way_tally, m_way_tally, k_way_tally, b_way_tally⟩ := C_way_tally
  refine D.cal sc_change_of (fun vs H Q E h => ?_) (fun f cdv A outer s H vs Q E hr h => ?_)
  · obtain ⟨d, w, k, L, ss, rfl, _⟩ := h
    rfl
  obtain ⟨d, w, k, L, ss, rfl, B, ok, k4, W, hs, kk⟩ := h
  refine ⟨_, (pss_one (ps_ret (pe_ix ix_tup (pe_call G_way_tally (hr.mono (by decide)) (by rfl) m_way_tally k_way_tally b_way_tally .nil pass0 (pa_cons (pv 0) (pa_cons (pv 1) pa_nil))) pe_int (fun _ _ => rfl)))), ?_⟩
  refine ⟨_, rfl, _, rfl, d, w, k, L, ss, rfl, B, ok, k4, W, fun s h => ⟨hs s h, True.intro⟩, fun H1 p s1 tl => ?_⟩
  obtain ⟨n, c, hp, hn, hc⟩ := tl
  exact ⟨_, _, _, _, rfl, rfl, SqT.of hp, atI_nat (j := 1) rfl, kk H1 c s1 hc⟩
end
end Sm

set_option Elab.async false
set_option linter.all false
set_option maxRecDepth 100000
set_option maxHeartbeats 16000000
namespace Sm
open PySem PySem.Spec PyProof.Rows L2
open C8 (pss_cut tCut)
abbrev s_Stuck_init : Stmt := inClass (topS 10) 0
abbrev N_Stuck_init : List Str := ["self", "index"]
theorem sc_Stuck_init : FnScope N_Stuck_init ["self", "index"] (defScope s_Stuck_init) := ⟨rfl, rfl, rfl, by decide +kernel, rfl, by decide +kernel, by decide +kernel⟩
/-- the purse covers what the first j steps need -/
def Cov (k : Nat) (L : List Of) (ss : List St) (am : Nat → Int) : Prop := ∀ i, i < k → (wayT L ss).n i ≤ am i
def sp_walkX (cS : Addr) : Sp := fun vs H Q E => ∃ (d a w : Addr) (k : Nat) (L : List Of) (ss : List St) (am : Nat → Int), vs = [.ref d, .ref a, .ref w] ∧ BoardAt H d k L ∧ (∀ o ∈ L, OfOk k o) ∧ k ≤ 4 ∧ H a = some (.tup ((vec k am).map V.int)) ∧ WayAt H w ss ∧ (∀ s ∈ ss, StD L s) ∧ ss.length ≤ 1000 ∧ (∀ i, i < k → 0 ≤ am i) ∧
  (∀ (j : Nat) H' x, j < ss.length → Cov k L (ss.take j) am → ¬ Cov k L (ss.take (j + 1)) am → Same H H' → H' x = some (.xd [(("index" : Str), .int (j : Int))]) → E (.ref cS) (some x) H') ∧
  (∀ H' p, Cov k L ss am → Same H H' → H' p = some (.tup ((vec k fun i => am i + (wayT L ss).c i).map V.int)) → Q (.ref p) H')
theorem cov_step {k : Nat} {L : List Of} {ss : List St} {am : Nat → Int} {j : Nat} {st : St} (h : ss[j]? = some st) (c : Cov k L (ss.take j) am) : Cov k L (ss.take (j + 1)) am ↔ ∀ i, i < k → (stT L st).n i ≤ am i + (wayT L (ss.take j)).c i := by
  unfold Cov
  rw [wayT_take h]
  constructor
  · intro q i hi
    have := q i hi
    have : max ((wayT L (ss.take j)).n i) ((stT L st).n i - (wayT L (ss.take j)).c i) ≤ am i := this
    omega
  · intro q i hi
    have := q i hi
    have := c i hi
    show max ((wayT L (ss.take j)).n i) ((stT L st).n i - (wayT L (ss.take j)).c i) ≤ am i
    omega
theorem cov_take {k : Nat} {L : List Of} {ss : List St} {am : Nat → Int} (c : Cov k L ss am) (j : Nat) : Cov k L (ss.take j) am := by
  intro i hi
  refine Int.le_trans ?_ (c i hi)
  have key : ∀ (zs : List St) (t : Tl), t.n i ≤ (zs.foldl (fun t s => t.seq (stT L s)) t).n i := by
    intro zs
    induction zs with
    | nil => intro t; exact Int.le_refl _
    | cons z zs ih => intro t; exact Int.le_trans (Int.le_max_left _ _) (ih (t.seq (stT L z)))
  have := key (ss.drop j) (wayT L (ss.take j))
  unfold wayT at this ⊢
  rw [← List.foldl_append, List.take_append_drop] at this
  exact this
section
variable {P : Program} {w : World} {K : PySem.W.Frag} {mg : Str → Option Value} {base : Heap} {cS fB : Addr}
theorem ok_Stuck_init {fd : FuncData} (F : Fun K "__init__" "Stuck.__init__" s_Stuck_init fB fd) : FnOk P w K mg base CX0 1 fB fd ["self", "index"] (sp_init K "index") := by
  refine F.ok sc_Stuck_init (fun vs H Q E h => ?_) (fun cdv A outer s H vs Q E hr h => ?_)
  · obtain ⟨a, C, v, rfl, _⟩ := h
    rfl
  obtain ⟨a, C, v, rfl, T, no, ha, k⟩ := h
  refine ⟨_, pss_one (ps_ost (pv 0) (pv 1)), ?_⟩
  exact ⟨_, rfl, _, rfl, a, C, rfl, T, no, .inl ⟨ha, k⟩⟩
abbrev s_walk : Stmt := topS 20
abbrev N_walk : List Str := ["board", "purse", "way", "kinds", "amounts", "index", "step", "need", "change", "kind"]
theorem sc_walk : FnScope N_walk ["board", "purse", "way"] (defScope s_walk) := ⟨rfl, rfl, rfl, by decide +kernel, rfl, by decide +kernel, by decide +kernel⟩
theorem ok_walkX (T : Txt mg) (XStuck : XVal K mg "Stuck" "index" cS fB) (iStuck : IniF K "Stuck.__init__" "index" s_Stuck_init fB) (D : Df K mg "walk" s_walk ["board", "purse", "way"]) (C_step_tally : Cal P w K mg base "step_tally" ["board", "step"] 4 (sp_step_tally K)) : CalX P w K mg base "walk" ["board", "purse", "way"] 5 (sp_walkX cS) := by
  obtain ⟨f_step_tally, fd_step_tally, G_step_tally, m_step_tally, k_step_tally, b_step_tally⟩ := C_step_tally
  obtain ⟨fdI, FI, b_Stuck_init⟩ := iStuck
  have G_Stuck_init : FnOk P w K mg base CX0 1 fB fdI ["self", "index"] (sp_init K "index") := ok_Stuck_init FI
  obtain ⟨f, fd, F, m, b⟩ := D
  refine ⟨f, fd, F.okX sc_walk (fun vs H Q E h => ?_) (fun cdv A outer s H vs Q E hr h => ?_), m, F.kp, b⟩
  · obtain ⟨d, a, w, k, L, ss, am, rfl, _⟩ := h
    rfl
  obtain ⟨d, a, w, k, L, ss, am, rfl, B, ok, k4, ha, W, hs, sl, am0, kE, kQ⟩ := h
  obtain ⟨t, qs, hd, ht, hL⟩ := id B
  obtain ⟨ws, hw, hS⟩ := id W
  refine ⟨_, (pss_cons (ps_set (i := 3) sc_walk.nd rfl (Or.inl rfl) (pe_callTy cr_range1 (by rfl) T.n_range (by decide +kernel) (pa_cons (pe_ix ix_tup (pv 0) pe_int (fun _ _ => rfl)) pa_nil)))
    (pss_cons (ps_set (i := 4) sc_walk.nd rfl (Or.inr rfl) (pv 1))
    (pss_cons (ps_for (passes_of rfl) rfl (pi_enumT (by rfl) T.n_enumerate (pa_cons (pv 2) pa_nil)) (pg_tup (by rfl) (pgs_cons (pg_name (i := 5) sc_walk.nd rfl (Or.inl rfl)) (pgs_cons (pg_name (i := 6) sc_walk.nd rfl (Or.inl rfl)) pgs_nil)))
      (pss_cons (ps_asg (pe_call G_step_tally (hr.mono (by decide)) (by rfl) m_step_tally k_step_tally b_step_tally .nil pass0 (pa_cons (pv 0) (pa_cons (pv 6) pa_nil))) (pg_tup (by rfl) (pgs_cons (pg_name (i := 7) sc_walk.nd rfl (Or.inr rfl)) (pgs_cons (pg_name (i := 8) sc_walk.nd rfl (Or.inr rfl)) pgs_nil))))
    (pss_cut (ps_if (pt_val (pe_callB (cr_any rfl) (by rfl) T.n_any (by decide +kernel) (pa_cons (pe_lc (own := [("kind", 9)]) (g := gName 9) (tt := tYes) rfl sc_walk.nd (pi_rng (pv 3)) (blkOk_by (own := [("kind", 9)]) (N := N_walk) (sc := defScope s_walk) (by decide +kernel)) (fun _ _ _ _ _ => pg_name (i := 9) sc_walk.nd rfl (Or.inl rfl)) (fun _ _ _ _ _ => pts_nil) (fun _ _ _ _ _ => (pe_cmpR op_lt (pe_ix (show IxR _ (rIxT K) from ix_tup) (pv 4) (pv 9) (fun _ _ => rfl)) (pe_ix (show IxR _ (rIxT K) from ix_tup) (pv 7) (pv 9) (fun _ _ => rfl)) (nomark _)))) pa_nil))) (pss_one (ps_raise rfl (takes_of rfl rfl rfl rfl) (pmk_oex XStuck.oex XStuck.iC XStuck.tI G_Stuck_init (hr.mono (by decide)) b_Stuck_init .nil pass0 (by rfl) XStuck.g (pa_cons (pv 5) pa_nil)))) pss_nil)
    (pss_one (ps_set (i := 4) sc_walk.nd rfl (Or.inr rfl) (pe_callTy call_tuple_of (by rfl) T.n_tuple (by decide +kernel) (pa_cons (pe_lc (own := [("kind", 9)]) (g := gName 9) (tt := tYes) rfl sc_walk.nd (pi_rng (pv 3)) (blkOk_by (own := [("kind", 9)]) (N := N_walk) (sc := defScope s_walk) (by decide +kernel)) (fun _ _ _ _ _ => pg_name (i := 9) sc_walk.nd rfl (Or.inl rfl)) (fun _ _ _ _ _ => pts_nil) (fun _ _ _ _ _ => (pe_op op_add (pe_ix (show IxR _ (rIxT K) from ix_tup) (pv 4) (pv 9) (fun _ _ => rfl)) (pe_ix (show IxR _ (rIxT K) from ix_tup) (pv 8) (pv 9) (fun _ _ => rfl))))) pa_nil)))))))
    (pss_one (ps_ret (pv 4)))))), ?_⟩
  refine ⟨_, rfl, _, _, _, _, rfl, rfl, SqT.of hd, atI_nat (j := 0) rfl, _, rfl, fun r nr => ?_⟩
  have s1 := same_upd (o := .rng 0 (k : Int)) nr
  have hr1 : upd H r (.rng 0 (k : Int)) r = some (.rng 0 (k : Int)) := upd_same
  generalize upd H r (.rng 0 (k : Int)) = H1 at s1 hr1 ⊢
  clear nr
  have ll : ∀ f : Nat → Int, ((vec k f).map V.int).length = k := fun f => by rw [List.length_map, vec_len]
  have lw : (ws.map V.ref).length = ss.length := by rw [List.length_map, hS.1]
  have cnt : ((k : Int) - 0).toNat = k := by omega
  have ha1 := s1 _ _ ha
  refine ⟨_, rfl, _, rfl, w, _, rfl, SqT.of (s1 _ _ hw), ?_⟩
  refine for_it (walk_enumT (K := K) (a := w) (xs := ws.map V.ref)) (fun j σ H' => ∃ (A' : Addr) (v5 v6 v7 v8 : Option V), σ = [some (.ref d), some (.ref a), some (.ref w), some (.ref r), some (.ref A'), v5, v6, v7, v8, none] ∧ Same H1 H' ∧ H' A' = some (.tup ((vec k fun i => am i + (wayT L (ss.take j)).c i).map V.int)) ∧ Cov k L (ss.take j) am)
    ⟨a, none, none, none, none, rfl, Same.refl _, ?_, fun i hi => am0 i hi⟩ (fun j σ H' _ h => by obtain ⟨_, _, _, _, _, _, s', _⟩ := h; exact SqT.of (s' _ _ (s1 _ _ hw))) ?_ ?_
  · rw [ha1, show (fun i => am i + (wayT L (ss.take 0)).c i) = am from funext fun i => Int.add_zero _]
  · rintro j x σ H2 H2' hj ⟨A', v5, v6, v7, v8, rfl, s2, hA, cv⟩ ⟨T', x1, y, rfl, hT, rfl, hx1, hy⟩
    have hx1 := (Option.some.inj hx1).symm
    subst hx1
    have hy : (ws.map V.ref)[j]? = some y := hy
    rw [List.getElem?_map] at hy
    rw [lw] at hj
    cases e : ws[j]? with
    | none => rw [e] at hy; cases hy
    | some q =>
      rw [e] at hy
      have ey : y = .ref q := (Option.some.inj hy).symm
      subst ey
      obtain ⟨st, hst, hq⟩ := hS.2 j q e
      have sT := same_upd (o := .tup [.int (j : Int), .ref q]) hT
      have sB := s1.trans (s2.trans sT)
      refine ⟨T', _, rfl, SqT.of upd_same, rfl, _, _, rfl, _, _, rfl, rfl, ?_⟩
      have hh := hs st (List.mem_of_getElem? hst)
      refine ⟨_, rfl, _, rfl, d, q, k, L, st, rfl, B.same sB, ok, k4, hq.mono fun b xs e => sB _ _ e, hh, trivial, fun H5 p s5 tl => ?_⟩
      obtain ⟨an, ac, hp, han, hac⟩ := tl
      refine ⟨p, _, rfl, SqT.of hp, rfl, _, _, rfl, _, _, rfl, rfl, ?_⟩
      have s25 := s2.trans (sT.trans s5)
      have hA5 := s5 _ _ (sT _ _ hA)
      have hr5 := s25 _ _ hr1
      have hw5 := s25 _ _ (s1 _ _ hw)
      have cs := cov_step (k := k) (L := L) hst cv
      refine ⟨fun σ H' => Same H5 H' ∧ Cov k L (ss.take (j + 1)) am ∧ σ = [some (.ref d), some (.ref a), some (.ref w), some (.ref r), some (.ref A'), some (.int (j : Int)), some (.ref q), some (.ref an), some (.ref ac), none], ?_, ?_⟩
      · refine ⟨_, rfl, r, _, _, rfl, hr5, fun U nU => ?_⟩
        have sU := same_upd (o := .lst []) nU
        rw [cnt]
        refine lc_range (lo := 0) (n := k) (fun i H' => Same H5 H' ∧ H' U = some (.lst (((List.range i).map fun x => decide (am x + (wayT L (ss.take j)).c x < (stT L st).n x)).map V.bl))) ⟨sU, upd_same⟩ ?_ ?_
        · rintro i H6 hi ⟨s6, hU⟩
          refine ⟨rfl, ?_⟩
          unfold tYes
          refine iteT ?_
          refine ⟨_, rfl, _, rfl, _, _, _, _, rfl, rfl, SqT.of (s6 _ _ hA5), at_of (j := i) (Int.zero_add _) (vget hi), _, rfl, _, rfl, _, _, _, _, rfl, rfl, SqT.of (s6 _ _ han), at_of (j := i) (Int.zero_add _) (vget hi), _, _, rfl, rfl, _, hU, ?_, fun b o e' => ?_, ?_⟩
          · rw [List.length_map, List.length_map, List.length_range]
            exact Nat.lt_of_le_of_lt (show i ≤ 4 by omega) (by decide)
          · rw [upd_ne (ne_of_none e' nU)]
            exact s6 _ _ e'
          · rw [upd_same, List.range_succ, List.map_append, List.map_append]
            rfl
        rintro H6 ⟨s6, hU⟩
        refine ⟨U, _, rfl, SqL.of hU, _, rfl, ?_⟩
        by_cases c : Cov k L (ss.take (j + 1)) am
        · have z : ((List.range k).map fun x => decide (am x + (wayT L (ss.take j)).c x < (stT L st).n x)).any id = false := by
            rw [List.any_eq_false]
            intro b hb
            obtain ⟨i, hi, rfl⟩ := List.mem_map.mp hb
            have := cs.mp c i (List.mem_range.mp hi)
            show ¬ decide _ = true
            rw [decide_eq_true_iff]
            omega
          rw [z]
          exact iteF ⟨s6, c, rfl⟩
        · have z : ((List.range k).map fun x => decide (am x + (wayT L (ss.take j)).c x < (stT L st).n x)).any id = true := by
            rw [List.any_eq_true]
            have nc : ¬ ∀ i, i < k → (stT L st).n i ≤ am i + (wayT L (ss.take j)).c i := fun q => c (cs.mpr q)
            obtain ⟨i, hi⟩ := Classical.not_forall.mp nc
            obtain ⟨hi, hlt⟩ := Classical.not_imp.mp hi
            exact ⟨_, List.mem_map.mpr ⟨i, List.mem_range.mpr hi, rfl⟩, decide_eq_true (by omega)⟩
          rw [z]
          refine iteT ?_
          refine xc_mk XStuck.oex XStuck.no ⟨_, rfl, V.int (j : Int), rfl, fun dx H7 s7 hd => kE j H7 dx hj cv c (s1.trans (s25.trans (s6.trans s7))) hd⟩ (fun h z => ?_)
          obtain ⟨v, e, q⟩ := z
          exact ⟨v, e, h _ _ q⟩
      · rintro σ H6 ⟨s6, c, rfl⟩
        refine ⟨_, rfl, r, _, _, rfl, s6 _ _ hr5, fun U nU => ?_⟩
        have sU := same_upd (o := .lst []) nU
        rw [cnt]
        refine lc_range (lo := 0) (n := k) (fun i H' => Same H6 H' ∧ H' U = some (.lst ((vec i fun x => am x + (wayT L (ss.take (j + 1))).c x).map V.int))) ⟨sU, upd_same⟩ ?_ ?_
        · rintro i H7 hi ⟨s7, hU⟩
          refine ⟨rfl, ?_⟩
          unfold tYes
          refine iteT ?_
          refine ⟨_, rfl, _, rfl, _, _, _, _, rfl, rfl, SqT.of (s7 _ _ (s6 _ _ hA5)), at_of (j := i) (Int.zero_add _) (vget hi), _, rfl, _, rfl, _, _, _, _, rfl, rfl, SqT.of (s7 _ _ (s6 _ _ hac)), at_of (j := i) (Int.zero_add _) (vget hi), _, _, rfl, rfl, _, hU, ?_, fun b o e' => ?_, ?_⟩
          · rw [List.length_map, vec_len]
            exact Nat.lt_of_le_of_lt (show i ≤ 4 by omega) (by decide)
          · rw [upd_ne (ne_of_none e' nU)]
            exact s7 _ _ e'
          · rw [upd_same, vec_succ, List.map_append, wayT_take hst]
            show some (HO.lst (_ ++ [V.int (am i + (wayT L (ss.take j)).c i + (stT L st).c i)])) = some (HO.lst (_ ++ [V.int (am i + ((wayT L (ss.take j)).c i + (stT L st).c i))]))
            rw [Int.add_assoc]
        rintro H7 ⟨s7, hU⟩
        refine ⟨_, _, rfl, .inl ⟨SqL.of hU, fun n' nn' => ?_⟩⟩
        have s8 := same_upd (o := .tup ((vec k fun x => am x + (wayT L (ss.take (j + 1))).c x).map V.int)) nn'
        exact ⟨n', _, _, _, _, rfl, s25.trans (s6.trans (s7.trans s8)), upd_same, c⟩
  · rintro σ H2 ⟨A', v5, v6, v7, v8, rfl, s2, hA, cv⟩
    rw [lw, List.take_length] at hA cv
    exact ⟨_, rfl, kQ H2 A' cv (s1.trans s2) hA⟩
end
end Sm

set_option Elab.async false
set_option linter.all false
set_option maxRecDepth 100000
set_option maxHeartbeats 8000000
namespace Sm
open PySem PySem.Spec PyProof.Rows L2
open C8 (pss_cut tCut)
/-! ### numbers and offers -/
def inI : PyData → Int → Int → Bool
  | .int i, lo, hi => decide (lo ≤ i) && decide (i ≤ hi)
  | _, _, _ => false
def isW : PyData → Bool
  | .int _ => true
  | _ => false
def amB : PyData → Bool
  | .int i => decide (0 ≤ i)
  | _ => false
theorem inI_ok {i lo hi : Int} (h : lo ≤ i ∧ i ≤ hi) : inI (.int i) lo hi = true := by
  show (decide (lo ≤ i) && decide (i ≤ hi)) = true
  rw [decide_eq_true h.1, decide_eq_true h.2]
  rfl
theorem of_int (d : PyData) : isOf "int" d = (match d with | .int _ => true | .bool _ => true | _ => false) := by
  cases d <;> simp [isOf, isT, tyN]
theorem of_bool (d : PyData) : isOf "bool" d = (match d with | .bool _ => true | _ => false) := by
  cases d <;> simp [isOf, isT, tyN]
theorem of_tup (d : PyData) : isOf "tuple" d = (match d with | .tuple _ => true | _ => false) := by
  cases d <;> simp [isOf, isT, tyN]
theorem chain_in {i lo hi : Int} {σ : L2.St} {H : Hp} {Q : VK} (h0 : σ[0]? = some (some (.int i))) (h1 : σ[1]? = some (some (.int lo))) (h2 : σ[2]? = some (some (.int hi))) (h : Q (.bl (decide (lo ≤ i) && decide (i ≤ hi))) H) :
    tChain (rI0 fun i j => V.bl (decide (i ≤ j))) (rI0 fun i j => V.bl (decide (i ≤ j))) (tVar 1) (tVar 0) (tVar 2) σ H Q := by
  refine ⟨_, h1, _, h0, _, _, rfl, rfl, _, rfl, ?_⟩
  by_cases c : lo ≤ i
  · rw [decide_eq_true c] at h ⊢
    exact iteT ⟨_, h2, _, _, rfl, rfl, h⟩
  · rw [decide_eq_false c] at h ⊢
    exact iteF h
def sp_is_whole (K : PySem.W.Frag) : Sp := fun vs H Q _ => ∃ (v : V) (d : PyData), vs = [v] ∧ Dq K H v d ∧ Q (.bl (isW d)) H
def sp_is_within (K : PySem.W.Frag) : Sp := fun vs H Q _ => ∃ (v : V) (d : PyData) (lo hi : Int), vs = [v, .int lo, .int hi] ∧ Dq K H v d ∧ Q (.bl (inI d lo hi)) H
def sp_is_amount (K : PySem.W.Frag) : Sp := fun vs H Q _ => ∃ (v : V) (d : PyData), vs = [v] ∧ Dq K H v d ∧ Q (.bl (amB d)) H
def sp_is_offer (_ : PySem.W.Frag) : Sp := fun vs H Q _ => ∃ (q : Addr) (o : Of) (k : Nat), vs = [.int (k : Int), .ref q] ∧ OffAt H q o ∧ OfOk k o ∧ Q (.bl true) H
/-! ### purses as objects -/
def PurseAt (cPurse : Addr) (H : Hp) (p : Addr) (k : Nat) (f : Nat → Int) : Prop := ∃ dx t : Addr, H p = some (.ins cPurse dx [(("amounts" : Str), .ref t)]) ∧ H t = some (.tup ((vec k f).map V.int))
theorem PurseAt.same {cPurse : Addr} {H H' : Hp} {p : Addr} {k : Nat} {f : Nat → Int} (h : PurseAt cPurse H p k f) (s : Same H H') : PurseAt cPurse H' p k f := by
  obtain ⟨dx, t, h1, h2⟩ := h
  exact ⟨dx, t, s _ _ h1, s _ _ h2⟩
structure TxP (K : PySem.W.Frag) (mg : Str → Option Value) (cPurse fPi fEq fAdd fSub fIn fCov : Addr) : Prop where
  g : mg "Purse" = some (.ref cPurse)
  ins : InsC K cPurse
  mak : Mk K cPurse fPi
  na : NoAttr K cPurse "amounts"
  is : PySem.W.kitOne K (.ref cPurse) (.ref cPurse) = some true
  first : PySem.W.selfFirst K cPurse = true
  mEq : Spm K cPurse "__eq__" fEq
  ne : PySem.W.findIn K (.ref cPurse) "__ne__" = some (some (.builtin "object.__ne__"))
  mAdd : Spm K cPurse "__add__" fAdd
  mSub : Spm K cPurse "__sub__" fSub
  mIn : Spm K cPurse "__contains__" fIn
  meC : Meth K cPurse "covers" fCov
def sp_Pinit (K : PySem.W.Frag) (cPurse : Addr) : Sp := fun vs H Q _ => ∃ (a dx t : Addr) (ns : List Int), vs = [.ref a, .ref t] ∧ H a = some (.ins cPurse dx []) ∧ H t = some (.tup (ns.map V.int)) ∧ 1 ≤ ns.length ∧ ns.length ≤ 4 ∧ (∀ n ∈ ns, 0 ≤ n) ∧
  ∀ H', (∀ b o, b ≠ a → H b = some o → H' b = some o) → H' a = some (.ins cPurse dx [(("amounts" : Str), .ref t)]) → Q .non H'
def sp_check (cPurse : Addr) : Sp := fun vs H Q _ => ∃ (a b : Addr) (k : Nat) (f g : Nat → Int), vs = [.ref a, .ref b] ∧ PurseAt cPurse H a k f ∧ PurseAt cPurse H b k g ∧ Q .non H
def sp_Padd (cPurse : Addr) : Sp := fun vs H Q _ => ∃ (a b : Addr) (k : Nat) (f g : Nat → Int), vs = [.ref a, .ref b] ∧ PurseAt cPurse H a k f ∧ PurseAt cPurse H b k g ∧ 1 ≤ k ∧ k ≤ 4 ∧ (∀ i, i < k → 0 ≤ f i + g i) ∧
  ∀ H' p, Same H H' → PurseAt cPurse H' p k (fun i => f i + g i) → Q (.ref p) H'
def sp_Psub (cPurse : Addr) : Sp := fun vs H Q _ => ∃ (a b : Addr) (k : Nat) (f g : Nat → Int), vs = [.ref a, .ref b] ∧ PurseAt cPurse H a k f ∧ PurseAt cPurse H b k g ∧ 1 ≤ k ∧ k ≤ 4 ∧ (∀ i, i < k → g i ≤ f i) ∧
  ∀ H' p, Same H H' → PurseAt cPurse H' p k (fun i => f i - g i) → Q (.ref p) H'
def sp_Pcov (cPurse : Addr) : Sp := fun vs H Q _ => ∃ (a b : Addr) (k : Nat) (f g : Nat → Int), vs = [.ref a, .ref b] ∧ PurseAt cPurse H a k f ∧ PurseAt cPurse H b k g ∧ k ≤ 4 ∧
  ∀ H', Same H H' → Q (.bl ((List.range k).all fun i => decide (g i ≤ f i))) H'
def sp_Pin (cPurse : Addr) : Sp := fun vs H Q _ => ∃ (a q : Addr) (k : Nat) (f : Nat → Int) (o : Of), vs = [.ref a, .ref q] ∧ PurseAt cPurse H a k f ∧ OffAt H q o ∧ OfOk k o ∧ Q (.bl (decide (o.x ≤ f o.a))) H
def sp_Peq (cPurse : Addr) : Sp := fun vs H Q _ => ∃ (a b : Addr) (k : Nat) (f g : Nat → Int), vs = [.ref a, .ref b] ∧ PurseAt cPurse H a k f ∧ PurseAt cPurse H b k g ∧ (∀ i, i < k → f i = g i) ∧ k ≤ 4 ∧ Q (.bl true) H
section
variable {P : Program} {w : World} {K : PySem.W.Frag} {mg : Str → Option Value} {base : Heap} {cPurse fPi fEq fAdd fSub fIn fCov : Addr}
abbrev s_is_whole : Stmt := topS 3
abbrev N_is_whole : List Str := ["value"]
theorem sc_is_whole : FnScope N_is_whole ["value"] (defScope s_is_whole) := ⟨rfl, rfl, rfl, by decide +kernel, rfl, by decide +kernel, by decide +kernel⟩
theorem ok_is_whole (T : Txt mg) (D : Df K mg "is_whole" s_is_whole ["value"]) : Cal P w K mg base "is_whole" ["value"] 1 (sp_is_whole K) := by
  refine D.cal sc_is_whole (fun vs H Q E h => ?_) (fun f cdv A outer s H vs Q E hr h => ?_)
  · obtain ⟨v, d, rfl, _⟩ := h
    rfl
  obtain ⟨v, d, rfl, hd, k⟩ := h
  refine ⟨_, (pss_one (ps_ret (pe_and (pe_callB call_isQ (by rfl) T.n_isinstance (by decide +kernel) (pa_cons (pv 0) (pa_cons (pe_bltn (v := .ty "int") (by rfl) T.n_int (by decide +kernel) rfl) pa_nil))) (pe_one (pe_not (pe_callB call_isQ (by rfl) T.n_isinstance (by decide +kernel) (pa_cons (pv 0) (pa_cons (pe_bltn (v := .ty "bool") (by rfl) T.n_bool (by decide +kernel) rfl) pa_nil)))))))), ?_⟩
  refine ⟨_, rfl, v, d, "int", rfl, hd, .inl rfl, _, rfl, ?_⟩
  rw [of_int]
  cases hd with
  | non => exact iteF k
  | bl b => exact iteT ⟨_, rfl, _, .bool b, "bool", rfl, .bl b, .inr (.inl rfl), _, rfl, by rw [of_bool]; exact k⟩
  | int i => exact iteT ⟨_, rfl, _, .int i, "bool", rfl, .int i, .inr (.inl rfl), _, rfl, by rw [of_bool]; exact k⟩
  | str x => exact iteF k
  | lst e1 e2 e3 => exact iteF k
  | tup e1 e2 => exact iteF k
  | dic kvs e1 => exact iteF k
abbrev s_is_within : Stmt := topS 4
abbrev N_is_within : List Str := ["value", "low", "high"]
theorem sc_is_within : FnScope N_is_within ["value", "low", "high"] (defScope s_is_within) := ⟨rfl, rfl, rfl, by decide +kernel, rfl, by decide +kernel, by decide +kernel⟩
theorem ok_is_within (T : Txt mg) (D : Df K mg "is_within" s_is_within ["value", "low", "high"]) (C_is_whole : Cal P w K mg base "is_whole" ["value"] 1 (sp_is_whole K)) : Cal P w K mg base "is_within" ["value", "low", "high"] 2 (sp_is_within K) := by
  obtain ⟨f_is_whole, fd_is_whole, G_is_whole, m_is_whole, k_is_whole, b_is_whole⟩ := C_is_whole
  refine D.cal sc_is_within (fun vs H Q E h => ?_) (fun f cdv A outer s H vs Q E hr h => ?_)
  · obtain ⟨v, d, lo, hi, rfl, _⟩ := h
    rfl
  obtain ⟨v, d, lo, hi, rfl, hd, k⟩ := h
  refine ⟨_, (pss_one (ps_ret (pe_and (pe_call G_is_whole (hr.mono (by decide)) (by rfl) m_is_whole k_is_whole b_is_whole .nil pass0 (pa_cons (pv 0) pa_nil)) (pe_one (pe_chain op_le op_le (pv 1) (pv 0) (pv 2)))))), ?_⟩
  refine ⟨_, rfl, v, d, rfl, hd, _, rfl, ?_⟩
  cases hd with
  | int i => exact iteT (chain_in rfl rfl rfl k)
  | non => exact iteF k
  | bl b => exact iteF k
  | str x => exact iteF k
  | lst e1 e2 e3 => exact iteF k
  | tup e1 e2 => exact iteF k
  | dic kvs e1 => exact iteF k
abbrev s_is_amount : Stmt := topS 5
abbrev N_is_amount : List Str := ["value"]
theorem sc_is_amount : FnScope N_is_amount ["value"] (defScope s_is_amount) := ⟨rfl, rfl, rfl, by decide +kernel, rfl, by decide +kernel, by decide +kernel⟩
theorem ok_is_amount (T : Txt mg) (D : Df K mg "is_amount" s_is_amount ["value"]) (C_is_whole : Cal P w K mg base "is_whole" ["value"] 1 (sp_is_whole K)) : Cal P w K mg base "is_amount" ["value"] 2 (sp_is_amount K) := by
  obtain ⟨f_is_whole, fd_is_whole, G_is_whole, m_is_whole, k_is_whole, b_is_whole⟩ := C_is_whole
  refine D.cal sc_is_amount (fun vs H Q E h => ?_) (fun f cdv A outer s H vs Q E hr h => ?_)
  · obtain ⟨v, d, rfl, _⟩ := h
    rfl
  obtain ⟨v, d, rfl, hd, k⟩ := h
  refine ⟨_, (pss_one (ps_ret (pe_and (pe_call G_is_whole (hr.mono (by decide)) (by rfl) m_is_whole k_is_whole b_is_whole .nil pass0 (pa_cons (pv 0) pa_nil)) (pe_one (pe_cmpR op_ge (pv 0) pe_int (nomark _)))))), ?_⟩
  refine ⟨_, rfl, v, d, rfl, hd, _, rfl, ?_⟩
  cases hd with
  | int i => exact iteT ⟨_, rfl, _, _, rfl, rfl, k⟩
  | non => exact iteF k
  | bl b => exact iteF k
  | str x => exact iteF k
  | lst e1 e2 e3 => exact iteF k
  | tup e1 e2 => exact iteF k
  | dic kvs e1 => exact iteF k
abbrev s_is_offer : Stmt := topS 7
abbrev N_is_offer : List Str := ["kinds", "value", "taken", "least", "given", "worth"]
theorem sc_is_offer : FnScope N_is_offer ["kinds", "value"] (defScope s_is_offer) := ⟨rfl, rfl, rfl, by decide +kernel, rfl, by decide +kernel, by decide +kernel⟩
theorem ok_is_offer (T : Txt mg) (D : Df K mg "is_offer" s_is_offer ["kinds", "value"]) (C_is_within : Cal P w K mg base "is_within" ["value", "low", "high"] 2 (sp_is_within K)) : Cal P w K mg base "is_offer" ["kinds", "value"] 3 (sp_is_offer K) := by
  obtain ⟨f_is_within, fd_is_within, G_is_within, m_is_within, k_is_within, b_is_within⟩ := C_is_within
  refine D.cal sc_is_offer (fun vs H Q E h => ?_) (fun f cdv A outer s H vs Q E hr h => ?_)
  · obtain ⟨q, o, k, rfl, _⟩ := h
    rfl
  obtain ⟨q, o, k, rfl, hO, oo, kk⟩ := h
  obtain ⟨_, hMAX_AMOUNT⟩ := T.c_MAX_AMOUNT
  have hO' : H q = some (.tup [.int (o.a : Int), .int o.x, .int (o.b : Int), .int o.y]) := hO
  have hD : Dq K H (.ref q) (.tuple [.int (o.a : Int), .int o.x, .int (o.b : Int), .int o.y]) := .tup hO' (.cons (.int _) (.cons (.int _) (.cons (.int _) (.cons (.int _) .nil))))
  have al := oo.a
  have bl := oo.b
  have x0 := oo.x0
  have x1 := oo.x1
  have y0 := oo.y0
  have y1 := oo.y1
  have ab := oo.ne
  refine ⟨_, (pss_cons (ps_if (PW.pt (pw_or (pt_not (pt_val (pe_callB call_isQ (by rfl) T.n_isinstance (by decide +kernel) (pa_cons (pv 1) (pa_cons (pe_bltn (v := .ty "tuple") (by rfl) T.n_tuple (by decide +kernel) rfl) pa_nil))))) (pw_or1 (pt_cmpR op_ne (pe_callB call_len_seq (by rfl) T.n_len (by decide +kernel) (pa_cons (pv 1) pa_nil)) pe_int (nomark _))))) (pss_one (ps_ret pe_bl)) pss_nil)
    (pss_cons (ps_asg (pv 1) (pg_tup (by rfl) (pgs_cons (pg_name (i := 2) sc_is_offer.nd rfl (Or.inl rfl)) (pgs_cons (pg_name (i := 3) sc_is_offer.nd rfl (Or.inl rfl)) (pgs_cons (pg_name (i := 4) sc_is_offer.nd rfl (Or.inl rfl)) (pgs_cons (pg_name (i := 5) sc_is_offer.nd rfl (Or.inl rfl)) pgs_nil))))))
    (pss_cons (ps_if (PW.pt (pw_or (pt_not (pt_val (pe_call G_is_within (hr.mono (by decide)) (by rfl) m_is_within k_is_within b_is_within .nil pass0 (pa_cons (pv 2) (pa_cons pe_int (pa_cons (pe_op op_sub (pv 0) pe_int) pa_nil)))))) (pw_or1 (pt_not (pt_val (pe_call G_is_within (hr.mono (by decide)) (by rfl) m_is_within k_is_within b_is_within .nil pass0 (pa_cons (pv 4) (pa_cons pe_int (pa_cons (pe_op op_sub (pv 0) pe_int) pa_nil))))))))) (pss_one (ps_ret pe_bl)) pss_nil)
    (pss_one (ps_ret (pe_and (pe_cmpR op_ne (pv 2) (pv 4) (nomark _)) (pe_and (pe_call G_is_within (hr.mono (by decide)) (by rfl) m_is_within k_is_within b_is_within .nil pass0 (pa_cons (pv 3) (pa_cons pe_int (pa_cons (pe_glob (v := .int 30) rfl hMAX_AMOUNT ⟨_, rfl⟩) pa_nil)))) (pe_one (pe_call G_is_within (hr.mono (by decide)) (by rfl) m_is_within k_is_within b_is_within .nil pass0 (pa_cons (pv 5) (pa_cons pe_int (pa_cons (pe_glob (v := .int 30) rfl hMAX_AMOUNT ⟨_, rfl⟩) pa_nil)))))))))))), ?_⟩
  refine ⟨_, rfl, _, _, "tuple", rfl, hD, .inr (.inr (.inr (.inl rfl))), ?_⟩
  rw [of_tup]
  refine ⟨_, rfl, iteF ⟨_, rfl, q, _, rfl, .inr (SqT.of hO'), rfl, _, rfl, iteF ?_⟩⟩
  refine ⟨_, rfl, q, _, rfl, SqT.of hO', rfl, _, _, rfl, _, _, rfl, _, _, rfl, _, _, rfl, rfl, ?_⟩
  have w1 : inI (.int (o.a : Int)) 0 ((k : Int) - 1) = true := inI_ok (by omega)
  have w2 : inI (.int (o.b : Int)) 0 ((k : Int) - 1) = true := inI_ok (by omega)
  have w3 : inI (.int o.x) 1 30 = true := inI_ok (by omega)
  have w4 : inI (.int o.y) 0 30 = true := inI_ok (by omega)
  refine ⟨_, rfl, _, rfl, _, _, rfl, rfl, _, _, 0, (k : Int) - 1, rfl, .int _, ?_⟩
  rw [w1]
  refine ⟨_, rfl, iteF ⟨_, rfl, _, rfl, _, _, rfl, rfl, _, _, 0, (k : Int) - 1, rfl, .int _, ?_⟩⟩
  rw [w2]
  refine ⟨_, rfl, iteF ?_⟩
  refine ⟨_, rfl, _, rfl, rfl, _, rfl, ?_⟩
  refine iteNN (fun e => ab (by injection e with e; omega)) ?_
  refine ⟨_, rfl, _, _, 1, 30, rfl, .int _, _, rfl, ?_⟩
  rw [w3]
  exact iteT ⟨_, rfl, _, _, 0, 30, rfl, .int _, by rw [w4]; exact kk⟩
end
end Sm

set_option Elab.async false
set_option linter.all false
set_option maxRecDepth 100000
set_option maxHeartbeats 8000000
namespace Sm
open PySem PySem.Spec PyProof.Rows L2
open C8 (pss_cut tCut)
theorem vlen (k : Nat) (f : Nat → Int) : ((vec k f).map V.int).length = k := by rw [List.length_map, vec_len]
theorem rng_vec (k : Nat) (f : Nat → Int) : (List.range k).map (fun i => V.int (f i)) = (vec k f).map V.int := by
  unfold vec
  rw [List.map_map]
  rfl
theorem mem_vec {k : Nat} {f : Nat → Int} {n : Int} (h : n ∈ vec k f) : ∃ i, i < k ∧ f i = n := by
  obtain ⟨i, hi, e⟩ := List.mem_map.mp h
  exact ⟨i, List.mem_range.mp hi, e⟩
theorem vec_nn {k : Nat} {f : Nat → Int} (h : ∀ i, i < k → 0 ≤ f i) : ∀ n ∈ vec k f, 0 ≤ n := fun n hn => by
  obtain ⟨i, hi, e⟩ := mem_vec hn
  rw [← e]
  exact h _ hi
theorem dq_ints {K : PySem.W.Frag} {H : Hp} {a : Addr} {ns : List Int} (h : H a = some (.tup (ns.map V.int))) : Dq K H (.ref a) (.tuple (ns.map PyData.int)) := by
  refine .tup h ?_
  clear h
  induction ns with
  | nil => exact .nil
  | cons n ns ih => exact .cons (.int n) ih
section
variable {P : Program} {w : World} {K : PySem.W.Frag} {mg : Str → Option Value} {base : Heap} {cPurse fPi fEq fAdd fSub fIn fCov : Addr}
abbrev s_Purse_init : Stmt := inClass (topS 17) 0
abbrev N_Purse_init : List Str := ["self", "amounts", "amount"]
theorem sc_Purse_init : FnScope N_Purse_init ["self", "amounts"] (defScope s_Purse_init) := ⟨rfl, rfl, rfl, by decide +kernel, rfl, by decide +kernel, by decide +kernel⟩
theorem ok_Pinit {fd : FuncData} (T : Txt mg) (R : TxP K mg cPurse fPi fEq fAdd fSub fIn fCov) (C_is_amount : Cal P w K mg base "is_amount" ["value"] 2 (sp_is_amount K)) (F : Fun K "__init__" "Purse.__init__" s_Purse_init fPi fd) : FnOk P w K mg base CX0 3 fPi fd ["self", "amounts"] (sp_Pinit K cPurse) := by
  obtain ⟨f_is_amount, fd_is_amount, G_is_amount, m_is_amount, k_is_amount, b_is_amount⟩ := C_is_amount
  obtain ⟨_, hMAX_KINDS⟩ := T.c_MAX_KINDS
  refine F.ok sc_Purse_init (fun vs H Q E h => ?_) (fun cdv A outer s H vs Q E hr h => ?_)
  · obtain ⟨a, dx, t, ns, rfl, _⟩ := h
    rfl
  obtain ⟨a, dx, t, ns, rfl, ha, ht, n1, n4, nn, kk⟩ := h
  have ln : (ns.map V.int).length = ns.length := List.length_map ..
  refine ⟨_, (pss_cons (ps_if (PW.pt (pw_or (pt_not (pt_val (pe_callB call_isQ (by rfl) T.n_isinstance (by decide +kernel) (pa_cons (pv 1) (pa_cons (pe_bltn (v := .ty "tuple") (by rfl) T.n_tuple (by decide +kernel) rfl) pa_nil))))) (pw_or1 (pt_not (pt_chain op_le op_le pe_int (pe_callB call_len_seq (by rfl) T.n_len (by decide +kernel) (pa_cons (pv 1) pa_nil)) (pe_glob (v := .int 4) rfl hMAX_KINDS ⟨_, rfl⟩)))))) (pss_one ps_no) pss_nil)
    (pss_cons (ps_if (pt_not (pt_val (pe_callB (cr_all rfl) (by rfl) T.n_all (by decide +kernel) (pa_cons (pe_lc (own := [("amount", 2)]) (g := gName 2) (tt := tYes) rfl sc_Purse_init.nd (pi_tup (pv 1)) (blkOk_by (own := [("amount", 2)]) (N := N_Purse_init) (sc := defScope s_Purse_init) (by decide +kernel)) (fun _ _ _ _ _ => pg_name (i := 2) sc_Purse_init.nd rfl (Or.inl rfl)) (fun _ _ _ _ _ => pts_nil) (fun _ _ _ _ _ => (pe_call G_is_amount (hr.mono (by decide)) (by rfl) m_is_amount k_is_amount b_is_amount .nil pass0 (pa_cons (pv 2) pa_nil)))) pa_nil)))) (pss_one ps_no) pss_nil)
    (pss_one (ps_fld (pv 0) (pv 1) rfl)))), ?_⟩
  refine ⟨_, rfl, _, _, "tuple", rfl, dq_ints ht, .inr (.inr (.inr (.inl rfl))), ?_⟩
  rw [of_tup]
  refine ⟨_, rfl, iteF ?_⟩
  refine ⟨_, rfl, t, _, rfl, .inr (SqT.of ht), _, _, rfl, rfl, _, rfl, ?_⟩
  rw [ln]
  refine iteP (by omega) ⟨_, _, rfl, rfl, _, rfl, ?_⟩
  refine iteNP (by omega) ?_
  refine ⟨_, rfl, t, rfl, ⟨_, SqT.of ht⟩, fun U nU => ?_⟩
  refine lc_mT (fun _ => .bl true) ht nU (by omega) ?_ gName_mono ?_
  · intro i x H' hx s' R' hR
    rw [List.getElem?_map] at hx
    cases e : ns[i]? with
    | none => rw [e] at hx; cases hx
    | some n =>
      rw [e] at hx
      have ex : x = .int n := (Option.some.inj hx).symm
      subst ex
      have z : amB (.int n) = true := decide_eq_true (nn _ (List.mem_of_getElem? e))
      refine ⟨rfl, _, rfl, _, _, rfl, .int n, ?_⟩
      rw [z]
      exact hR H' (Same.refl _)
  intro H1 s1 hU
  have hU : H1 U = some (.lst (((List.range ns.length).map fun _ => true).map V.bl)) := by rw [hU, ln, List.map_map]; rfl
  refine ⟨U, _, rfl, SqL.of hU, ?_⟩
  have z : ((List.range ns.length).map fun _ => true).all id = true := by rw [List.all_map, List.all_eq_true]; intro _ _; rfl
  rw [z]
  refine ⟨_, rfl, iteF ⟨_, rfl, _, rfl, a, cPurse, dx, _, rfl, s1 _ _ ha, R.ins.cl, R.na, by decide, ?_⟩⟩
  exact kk _ (fun b o nb hb => by rw [upd_ne nb]; exact s1 _ _ hb) upd_same
abbrev s_check_kinds : Stmt := topS 18
abbrev N_check_kinds : List Str := ["one", "other"]
theorem sc_check_kinds : FnScope N_check_kinds ["one", "other"] (defScope s_check_kinds) := ⟨rfl, rfl, rfl, by decide +kernel, rfl, by decide +kernel, by decide +kernel⟩
theorem ok_check_kinds (T : Txt mg) (R : TxP K mg cPurse fPi fEq fAdd fSub fIn fCov) (D : Df K mg "check_kinds" s_check_kinds ["one", "other"]) : Cal P w K mg base "check_kinds" ["one", "other"] 1 (sp_check cPurse) := by
  refine D.cal sc_check_kinds (fun vs H Q E h => ?_) (fun f cdv A outer s H vs Q E hr h => ?_)
  · obtain ⟨a, b, k, f, g, rfl, _⟩ := h
    rfl
  obtain ⟨a, b, k, f, g, rfl, ⟨dx, t, ha, ht⟩, ⟨dy, u, hb, hu⟩, kk⟩ := h
  refine ⟨_, (pss_one (ps_if (pt_cmpR op_ne (pe_callB call_len_seq (by rfl) T.n_len (by decide +kernel) (pa_cons (pe_fld (pv 0) rfl) pa_nil)) (pe_callB call_len_seq (by rfl) T.n_len (by decide +kernel) (pa_cons (pe_fld (pv 1) rfl) pa_nil)) (nomark _)) (pss_one ps_no) pss_nil)), ?_⟩
  refine ⟨_, rfl, a, cPurse, dx, _, _, rfl, ha, R.ins.cl, R.na, rfl, t, _, rfl, .inr (SqT.of ht), _, rfl, b, cPurse, dy, _, _, rfl, hb, R.ins.cl, R.na, rfl, u, _, rfl, .inr (SqT.of hu), ?_⟩
  rw [vlen, vlen]
  exact ⟨rfl, _, rfl, iteNP rfl kk⟩
abbrev s_Purse_covers : Stmt := inClass (topS 17) 10
abbrev N_Purse_covers : List Str := ["self", "other", "one", "less"]
theorem sc_Purse_covers : FnScope N_Purse_covers ["self", "other"] (defScope s_Purse_covers) := ⟨rfl, rfl, rfl, by decide +kernel, rfl, by decide +kernel, by decide +kernel⟩
theorem ok_Pcov {fd : FuncData} (T : Txt mg) (R : TxP K mg cPurse fPi fEq fAdd fSub fIn fCov) (C_check_kinds : Cal P w K mg base "check_kinds" ["one", "other"] 1 (sp_check cPurse)) (F : Fun K "covers" "Purse.covers" s_Purse_covers fCov fd) : FnOk P w K mg base CX0 2 fCov fd ["self", "other"] (sp_Pcov cPurse) := by
  obtain ⟨f_check_kinds, fd_check_kinds, G_check_kinds, m_check_kinds, k_check_kinds, b_check_kinds⟩ := C_check_kinds
  refine F.ok sc_Purse_covers (fun vs H Q E h => ?_) (fun cdv A outer s H vs Q E hr h => ?_)
  · obtain ⟨a, b, k, f, g, rfl, _⟩ := h
    rfl
  obtain ⟨a, b, k, f, g, rfl, hA, hB, k4, kk⟩ := h
  obtain ⟨dx, t, ha, ht⟩ := id hA
  obtain ⟨dy, u, hb, hu⟩ := id hB
  refine ⟨_, (pss_cons (ps_expr (pe_call G_check_kinds (hr.mono (by decide)) (by rfl) m_check_kinds k_check_kinds b_check_kinds .nil pass0 (pa_cons (pv 0) (pa_cons (pv 1) pa_nil))))
    (pss_one (ps_ret (pe_callB (cr_all rfl) (by rfl) T.n_all (by decide +kernel) (pa_cons (pe_lc (own := [("one", 2), ("less", 3)]) (g := gTup K 2 (gCons (gName 2) (gCons (gName 3) gNil))) (tt := tYes) rfl sc_Purse_covers.nd (RZ.pi_zipA (by rfl) T.n_zip (pa_cons (pe_fld (pv 0) rfl) (pa_cons (pe_fld (pv 1) rfl) pa_nil))) (blkOk_by (own := [("one", 2), ("less", 3)]) (N := N_Purse_covers) (sc := defScope s_Purse_covers) (by decide +kernel)) (fun _ _ _ _ _ => pg_tup (by rfl) (pgs_cons (pg_name (i := 2) sc_Purse_covers.nd rfl (Or.inl rfl)) (pgs_cons (pg_name (i := 3) sc_Purse_covers.nd rfl (Or.inl rfl)) pgs_nil))) (fun _ _ _ _ _ => pts_nil) (fun _ _ _ _ _ => (pe_cmpR op_ge (pv 2) (pv 3) (nomark _)))) pa_nil))))), ?_⟩
  refine ⟨_, rfl, _, rfl, a, b, k, f, g, rfl, hA, hB, ?_⟩
  refine ⟨_, rfl, a, cPurse, dx, _, _, rfl, ha, R.ins.cl, R.na, rfl, _, rfl, b, cPurse, dy, _, _, rfl, hb, R.ins.cl, R.na, rfl, t, u, _, _, rfl, .inr ⟨SqT.of ht, SqT.of hu, fun U nU => ?_⟩⟩
  refine lc_mZ (fun i => .bl (decide (g i ≤ f i))) ht hu (vlen k f) (vlen k g) nU (by omega) ?_ gTup2_mono ?_
  · intro i x y T' H' hx hy s' hT R' hR
    have hi : i < k := by
      have := (List.getElem?_eq_some_iff.mp hx).1
      rwa [vlen] at this
    rw [vget hi] at hx hy
    have hx := (Option.some.inj hx).symm
    have hy := (Option.some.inj hy).symm
    subst hx hy
    exact ⟨T', _, rfl, SqT.of hT, rfl, _, _, rfl, _, _, rfl, rfl, rfl, _, rfl, _, rfl, _, _, rfl, rfl, hR H' (Same.refl _)⟩
  intro H1 s1 hU
  have hU : H1 U = some (.lst (((List.range k).map fun i => decide (g i ≤ f i)).map V.bl)) := by rw [hU, List.map_map]; rfl
  refine ⟨U, _, rfl, SqL.of hU, ?_⟩
  rw [List.all_map]
  exact kk H1 s1
abbrev s_Purse_add : Stmt := inClass (topS 17) 7
abbrev N_Purse_add : List Str := ["self", "other", "one", "more"]
theorem sc_Purse_add : FnScope N_Purse_add ["self", "other"] (defScope s_Purse_add) := ⟨rfl, rfl, rfl, by decide +kernel, rfl, by decide +kernel, by decide +kernel⟩
theorem ok_Padd {fd fd1 : FuncData} (T : Txt mg) (R : TxP K mg cPurse fPi fEq fAdd fSub fIn fCov) (C_check_kinds : Cal P w K mg base "check_kinds" ["one", "other"] 1 (sp_check cPurse)) (G_Purse_init : FnOk P w K mg base CX0 3 fPi fd1 ["self", "amounts"] (sp_Pinit K cPurse)) (b_Purse_init : Binds K fd1 ["self", "amounts"] []) (F : Fun K "__add__" "Purse.__add__" s_Purse_add fAdd fd) : FnOk P w K mg base CX0 5 fAdd fd ["self", "other"] (sp_Padd cPurse) := by
  obtain ⟨f_check_kinds, fd_check_kinds, G_check_kinds, m_check_kinds, k_check_kinds, b_check_kinds⟩ := C_check_kinds
  have g_Purse := R.g
  have Mk_Purse := R.mak
  refine F.ok sc_Purse_add (fun vs H Q E h => ?_) (fun cdv A outer s H vs Q E hr h => ?_)
  · obtain ⟨a, b, k, f, g, rfl, _⟩ := h
    rfl
  obtain ⟨a, b, k, f, g, rfl, hA, hB, k1, k4, nn, kk⟩ := h
  obtain ⟨dx, t, ha, ht⟩ := id hA
  obtain ⟨dy, u, hb, hu⟩ := id hB
  refine ⟨_, (pss_cons (ps_expr (pe_call G_check_kinds (hr.mono (by decide)) (by rfl) m_check_kinds k_check_kinds b_check_kinds .nil pass0 (pa_cons (pv 0) (pa_cons (pv 1) pa_nil))))
    (pss_one (ps_ret (pe_make Mk_Purse G_Purse_init (hr.mono (by decide)) (by rfl) g_Purse b_Purse_init .nil pass0 (pa_cons (pe_callTy call_tuple_of (by rfl) T.n_tuple (by decide +kernel) (pa_cons (pe_lc (own := [("one", 2), ("more", 3)]) (g := gTup K 2 (gCons (gName 2) (gCons (gName 3) gNil))) (tt := tYes) rfl sc_Purse_add.nd (RZ.pi_zipA (by rfl) T.n_zip (pa_cons (pe_fld (pv 0) rfl) (pa_cons (pe_fld (pv 1) rfl) pa_nil))) (blkOk_by (own := [("one", 2), ("more", 3)]) (N := N_Purse_add) (sc := defScope s_Purse_add) (by decide +kernel)) (fun _ _ _ _ _ => pg_tup (by rfl) (pgs_cons (pg_name (i := 2) sc_Purse_add.nd rfl (Or.inl rfl)) (pgs_cons (pg_name (i := 3) sc_Purse_add.nd rfl (Or.inl rfl)) pgs_nil))) (fun _ _ _ _ _ => pts_nil) (fun _ _ _ _ _ => (pe_op op_add (pv 2) (pv 3)))) pa_nil)) pa_nil))))), ?_⟩
  refine ⟨_, rfl, _, rfl, a, b, k, f, g, rfl, hA, hB, ?_⟩
  refine ⟨_, rfl, a, cPurse, dx, _, _, rfl, ha, R.ins.cl, R.na, rfl, _, rfl, b, cPurse, dy, _, _, rfl, hb, R.ins.cl, R.na, rfl, t, u, _, _, rfl, .inr ⟨SqT.of ht, SqT.of hu, fun U nU => ?_⟩⟩
  refine lc_mZ (fun i => .int (f i + g i)) ht hu (vlen k f) (vlen k g) nU (by omega) ?_ gTup2_mono ?_
  · intro i x y T' H' hx hy s' hT R' hR
    have hi : i < k := by
      have := (List.getElem?_eq_some_iff.mp hx).1
      rwa [vlen] at this
    rw [vget hi] at hx hy
    have hx := (Option.some.inj hx).symm
    have hy := (Option.some.inj hy).symm
    subst hx hy
    exact ⟨T', _, rfl, SqT.of hT, rfl, _, _, rfl, _, _, rfl, rfl, rfl, _, rfl, _, rfl, _, _, rfl, rfl, hR H' (Same.refl _)⟩
  intro H1 s1 hU
  rw [rng_vec] at hU
  refine ⟨U, _, rfl, .inl ⟨SqL.of hU, fun q nq => ?_⟩⟩
  have sq := same_upd (o := .tup ((vec k fun i => f i + g i).map V.int)) nq
  refine fun x dx nx ndx ne => ?_
  have hq : upd H1 q (.tup ((vec k fun i => f i + g i).map V.int)) q = some (.tup ((vec k fun i => f i + g i).map V.int)) := upd_same
  generalize upd H1 q (.tup ((vec k fun i => f i + g i).map V.int)) = H2 at hq nx ndx sq ⊢
  have sx : Same H2 (upd (upd H2 dx (.own x)) x (.ins cPurse dx [])) := fun b o hb => by
    rw [upd_ne (ne_of_none hb nx), upd_ne (ne_of_none hb ndx)]
    exact hb
  refine ⟨x, dx, q, _, rfl, upd_same, sx _ _ hq, by rw [vec_len]; exact k1, by rw [vec_len]; exact k4, vec_nn nn, fun H' keep hx => ?_⟩
  have s3 : Same H2 H' := fun b o hb => keep b o (ne_of_none hb nx) (sx b o hb)
  exact ⟨rfl, kk H' x (s1.trans (sq.trans s3)) ⟨dx, q, hx, s3 _ _ hq⟩⟩
end
end Sm

set_option Elab.async false
set_option linter.all false
set_option maxRecDepth 100000
set_option maxHeartbeats 8000000
namespace Sm
open PySem PySem.Spec PyProof.Rows L2
open C8 (pss_cut tCut)
section
variable {P : Program} {w : World} {K : PySem.W.Frag} {mg : Str → Option Value} {base : Heap} {cPurse fPi fEq fAdd fSub fIn fCov : Addr}
abbrev s_Purse_sub : Stmt := inClass (topS 17) 8
abbrev N_Purse_sub : List Str := ["self", "other", "kind", "amount", "one", "less"]
theorem sc_Purse_sub : FnScope N_Purse_sub ["self", "other"] (defScope s_Purse_sub) := ⟨rfl, rfl, rfl, by decide +kernel, rfl, by decide +kernel, by decide +kernel⟩
theorem ok_Psub {fd fd1 : FuncData} (T : Txt mg) (R : TxP K mg cPurse fPi fEq fAdd fSub fIn fCov) (C_check_kinds : Cal P w K mg base "check_kinds" ["one", "other"] 1 (sp_check cPurse)) (G_Purse_init : FnOk P w K mg base CX0 3 fPi fd1 ["self", "amounts"] (sp_Pinit K cPurse)) (b_Purse_init : Binds K fd1 ["self", "amounts"] []) (F : Fun K "__sub__" "Purse.__sub__" s_Purse_sub fSub fd) : FnOk P w K mg base CX0 5 fSub fd ["self", "other"] (sp_Psub cPurse) := by
  obtain ⟨f_check_kinds, fd_check_kinds, G_check_kinds, m_check_kinds, k_check_kinds, b_check_kinds⟩ := C_check_kinds
  have g_Purse := R.g
  have Mk_Purse := R.mak
  refine F.ok sc_Purse_sub (fun vs H Q E h => ?_) (fun cdv A outer s H vs Q E hr h => ?_)
  · obtain ⟨a, b, k, f, g, rfl, _⟩ := h
    rfl
  obtain ⟨a, b, k, f, g, rfl, hA, hB, k1, k4, nn, kk⟩ := h
  obtain ⟨dx, t, ha, ht⟩ := id hA
  obtain ⟨dy, u, hb, hu⟩ := id hB
  refine ⟨_, (pss_cons (ps_expr (pe_call G_check_kinds (hr.mono (by decide)) (by rfl) m_check_kinds k_check_kinds b_check_kinds .nil pass0 (pa_cons (pv 0) (pa_cons (pv 1) pa_nil))))
    (pss_cons (ps_for PassesOwn.never rfl (pi_enumT (by rfl) T.n_enumerate (pa_cons (pe_fld (pv 0) rfl) pa_nil)) (pg_tup (by rfl) (pgs_cons (pg_name (i := 2) sc_Purse_sub.nd rfl (Or.inl rfl)) (pgs_cons (pg_name (i := 3) sc_Purse_sub.nd rfl (Or.inl rfl)) pgs_nil)))
      (pss_one (ps_if (pt_cmpR op_lt (pv 3) (pe_ix ix_tup (pe_fld (pv 1) rfl) (pv 2) (fun _ _ => rfl)) (nomark _)) (pss_one ps_no) pss_nil)))
    (pss_one (ps_ret (pe_make Mk_Purse G_Purse_init (hr.mono (by decide)) (by rfl) g_Purse b_Purse_init .nil pass0 (pa_cons (pe_callTy call_tuple_of (by rfl) T.n_tuple (by decide +kernel) (pa_cons (pe_lc (own := [("one", 4), ("less", 5)]) (g := gTup K 2 (gCons (gName 4) (gCons (gName 5) gNil))) (tt := tYes) rfl sc_Purse_sub.nd (RZ.pi_zipA (by rfl) T.n_zip (pa_cons (pe_fld (pv 0) rfl) (pa_cons (pe_fld (pv 1) rfl) pa_nil))) (blkOk_by (own := [("one", 4), ("less", 5)]) (N := N_Purse_sub) (sc := defScope s_Purse_sub) (by decide +kernel)) (fun _ _ _ _ _ => pg_tup (by rfl) (pgs_cons (pg_name (i := 4) sc_Purse_sub.nd rfl (Or.inl rfl)) (pgs_cons (pg_name (i := 5) sc_Purse_sub.nd rfl (Or.inl rfl)) pgs_nil))) (fun _ _ _ _ _ => pts_nil) (fun _ _ _ _ _ => (pe_op op_sub (pv 4) (pv 5)))) pa_nil)) pa_nil)))))), ?_⟩
  refine ⟨_, rfl, _, rfl, a, b, k, f, g, rfl, hA, hB, ?_⟩
  refine ⟨_, rfl, a, cPurse, dx, _, _, rfl, ha, R.ins.cl, R.na, rfl, t, _, rfl, SqT.of ht, ?_⟩
  refine for_it (walk_enumT (K := K) (a := t) (xs := (vec k f).map V.int)) (fun j σ H' => ∃ v2 v3 : Option V, σ = [some (.ref a), some (.ref b), v2, v3, none, none] ∧ Same H H')
    ⟨none, none, rfl, Same.refl _⟩ (fun j σ H' _ h => by obtain ⟨_, _, _, s'⟩ := h; exact SqT.of (s' _ _ ht)) ?_ ?_
  · rintro j x σ H2 H2' hj ⟨v2, v3, rfl, s2⟩ ⟨T', x1, y, rfl, hT, rfl, hx1, hy⟩
    rw [vlen] at hj
    have hx1 := (Option.some.inj hx1).symm
    have hy : ((vec k f).map V.int)[j]? = some y := hy
    rw [vget hj] at hy
    have hy := (Option.some.inj hy).symm
    subst hx1 hy
    have sT := same_upd (o := .tup [.int (j : Int), .int (f j)]) hT
    have sB := s2.trans sT
    refine ⟨T', _, rfl, SqT.of upd_same, rfl, _, _, rfl, _, _, rfl, rfl, ?_⟩
    refine ⟨_, rfl, _, rfl, b, cPurse, dy, _, _, rfl, sB _ _ hb, R.ins.cl, R.na, rfl, _, rfl, _, _, _, _, rfl, rfl, SqT.of (sB _ _ hu), atI_nat (vget hj), _, _, rfl, rfl, _, rfl, ?_⟩
    exact iteN (by have := nn j hj; omega) ⟨_, _, rfl, sB⟩
  rintro σ H1 ⟨v2, v3, rfl, s1⟩
  refine ⟨_, rfl, a, cPurse, dx, _, _, rfl, s1 _ _ ha, R.ins.cl, R.na, rfl, _, rfl, b, cPurse, dy, _, _, rfl, s1 _ _ hb, R.ins.cl, R.na, rfl, t, u, _, _, rfl, .inr ⟨SqT.of (s1 _ _ ht), SqT.of (s1 _ _ hu), fun U nU => ?_⟩⟩
  refine lc_mZ (fun i => .int (f i - g i)) (s1 _ _ ht) (s1 _ _ hu) (vlen k f) (vlen k g) nU (by omega) ?_ gTup2_mono ?_
  · intro i x y T' H' hx hy s' hT R' hR
    have hi : i < k := by
      have := (List.getElem?_eq_some_iff.mp hx).1
      rwa [vlen] at this
    rw [vget hi] at hx hy
    have hx := (Option.some.inj hx).symm
    have hy := (Option.some.inj hy).symm
    subst hx hy
    exact ⟨T', _, rfl, SqT.of hT, rfl, _, _, rfl, _, _, rfl, rfl, rfl, _, rfl, _, rfl, _, _, rfl, rfl, hR H' (Same.refl _)⟩
  intro H3 s3 hU
  rw [rng_vec] at hU
  refine ⟨U, _, rfl, .inl ⟨SqL.of hU, fun q nq => ?_⟩⟩
  have sq := same_upd (o := .tup ((vec k fun i => f i - g i).map V.int)) nq
  refine fun x dx nx ndx ne => ?_
  have hq : upd H3 q (.tup ((vec k fun i => f i - g i).map V.int)) q = some (.tup ((vec k fun i => f i - g i).map V.int)) := upd_same
  generalize upd H3 q (.tup ((vec k fun i => f i - g i).map V.int)) = H2 at hq nx ndx sq ⊢
  have sx : Same H2 (upd (upd H2 dx (.own x)) x (.ins cPurse dx [])) := fun b o hb => by
    rw [upd_ne (ne_of_none hb nx), upd_ne (ne_of_none hb ndx)]
    exact hb
  refine ⟨x, dx, q, _, rfl, upd_same, sx _ _ hq, by rw [vec_len]; exact k1, by rw [vec_len]; exact k4, vec_nn (fun i hi => by have := nn i hi; omega), fun H' keep hx => ?_⟩
  have s4 : Same H2 H' := fun b o hb => keep b o (ne_of_none hb nx) (sx b o hb)
  exact ⟨rfl, kk H' x (s1.trans (s3.trans (sq.trans s4))) ⟨dx, q, hx, s4 _ _ hq⟩⟩
abbrev s_Purse_contains : Stmt := inClass (topS 17) 5
abbrev N_Purse_contains : List Str := ["self", "x"]
theorem sc_Purse_contains : FnScope N_Purse_contains ["self", "x"] (defScope s_Purse_contains) := ⟨rfl, rfl, rfl, by decide +kernel, rfl, by decide +kernel, by decide +kernel⟩
theorem ok_Pin {fd : FuncData} (T : Txt mg) (R : TxP K mg cPurse fPi fEq fAdd fSub fIn fCov) (C_is_offer : Cal P w K mg base "is_offer" ["kinds", "value"] 3 (sp_is_offer K)) (F : Fun K "__contains__" "Purse.__contains__" s_Purse_contains fIn fd) : FnOk P w K mg base CX0 4 fIn fd ["self", "x"] (sp_Pin cPurse) := by
  obtain ⟨f_is_offer, fd_is_offer, G_is_offer, m_is_offer, k_is_offer, b_is_offer⟩ := C_is_offer
  refine F.ok sc_Purse_contains (fun vs H Q E h => ?_) (fun cdv A outer s H vs Q E hr h => ?_)
  · obtain ⟨a, q, k, f, o, rfl, _⟩ := h
    rfl
  obtain ⟨a, q, k, f, o, rfl, ⟨dx, t, ha, ht⟩, hO, oo, kk⟩ := h
  have hO' : H q = some (.tup [.int (o.a : Int), .int o.x, .int (o.b : Int), .int o.y]) := hO
  refine ⟨_, (pss_one (ps_ret (pe_and (pe_call G_is_offer (hr.mono (by decide)) (by rfl) m_is_offer k_is_offer b_is_offer .nil pass0 (pa_cons (pe_callB call_len_seq (by rfl) T.n_len (by decide +kernel) (pa_cons (pe_fld (pv 0) rfl) pa_nil)) (pa_cons (pv 1) pa_nil))) (pe_one (pe_cmpR op_ge (pe_ix ix_tup (pe_fld (pv 0) rfl) (pe_ix ix_tup (pv 1) pe_int (fun _ _ => rfl)) (fun _ _ => rfl)) (pe_ix ix_tup (pv 1) pe_int (fun _ _ => rfl)) (nomark _)))))), ?_⟩
  refine ⟨_, rfl, a, cPurse, dx, _, _, rfl, ha, R.ins.cl, R.na, rfl, t, _, rfl, .inr (SqT.of ht), _, rfl, q, o, k, by rw [vlen]; rfl, hO, oo, ?_⟩
  refine ⟨_, rfl, iteT ?_⟩
  refine ⟨_, rfl, a, cPurse, dx, _, _, rfl, ha, R.ins.cl, R.na, rfl, _, rfl, _, _, _, _, rfl, rfl, SqT.of hO', atI_nat (j := 0) rfl, _, _, _, _, rfl, rfl, SqT.of ht, atI_nat (vget oo.a), _, rfl, _, _, _, _, rfl, rfl, SqT.of hO', atI_nat (j := 1) rfl, _, _, rfl, rfl, ?_⟩
  exact kk
abbrev s_Purse_eq : Stmt := inClass (topS 17) 1
abbrev N_Purse_eq : List Str := ["self", "other"]
theorem sc_Purse_eq : FnScope N_Purse_eq ["self", "other"] (defScope s_Purse_eq) := ⟨rfl, rfl, rfl, by decide +kernel, rfl, by decide +kernel, by decide +kernel⟩
theorem ok_Peq {fd : FuncData} (T : Txt mg) (R : TxP K mg cPurse fPi fEq fAdd fSub fIn fCov) (F : Fun K "__eq__" "Purse.__eq__" s_Purse_eq fEq fd) : FnOk P w K mg base CX0 1 fEq fd ["self", "other"] (sp_Peq cPurse) := by
  have g_Purse := R.g
  refine F.ok sc_Purse_eq (fun vs H Q E h => ?_) (fun cdv A outer s H vs Q E hr h => ?_)
  · obtain ⟨a, b, k, f, g, rfl, _⟩ := h
    rfl
  obtain ⟨a, b, k, f, g, rfl, ⟨dx, t, ha, ht⟩, ⟨dy, u, hb, hu⟩, e, k4, kk⟩ := h
  rw [← vec_congr e] at hu
  refine ⟨_, (pss_one (ps_ret (pe_and (pe_callB call_isi (by rfl) T.n_isinstance (by decide +kernel) (pa_cons (pv 1) (pa_cons (pe_glob (v := .ref cPurse) rfl g_Purse rfl) pa_nil))) (pe_one (pe_cmpR (op_eqD hr.units) (pe_fld (pv 0) rfl) (pe_fld (pv 1) rfl) (nomark _)))))), ?_⟩
  refine ⟨_, rfl, _, _, _, _, true, rfl, .own _, R.ins.ty hb, R.is, _, rfl, iteT ?_⟩
  refine ⟨_, rfl, a, cPurse, dx, _, _, rfl, ha, R.ins.cl, R.na, rfl, _, rfl, b, cPurse, dy, _, _, rfl, hb, R.ins.cl, R.na, rfl, ?_⟩
  exact ⟨_, _, dp_tup ht, dp_tup hu, tup_shaped _, tup_shaped _, by rw [eqv_selfT]; exact kk⟩
end
end Sm

set_option Elab.async false
set_option linter.all false
set_option maxRecDepth 100000
set_option maxHeartbeats 8000000
namespace Sm
open PySem PySem.Spec PyProof.Rows L2
open C8 (pss_cut tCut)
/-! ### the law's own walk with objects -/
def useF (o : Of) (f : Nat → Int) : Nat → Int := fun j => f j - (if j = o.a then o.x else 0) + (if j = o.b then o.y else 0)
/-- a way of runs -/
def runW (rs : List (Nat × Int)) : List St := asWay rs
theorem runT_zero (o : Of) (i : Nat) : (runT o ((0 : Nat) : Int)).c i = 0 := by
  unfold runT
  simp
theorem useF_run {o : Of} (ab : o.a ≠ o.b) (F : Nat → Int) (u : Nat) : useF o (fun i => F i + (runT o (u : Int)).c i) = fun i => F i + (runT o ((u + 1 : Nat) : Int)).c i := by
  funext i
  have e1 : ((u + 1 : Nat) : Int) * o.x = (u : Int) * o.x + o.x := by rw [Int.natCast_add, Int.add_mul]; simp
  have e2 : ((u + 1 : Nat) : Int) * o.y = (u : Int) * o.y + o.y := by rw [Int.natCast_add, Int.add_mul]; simp
  have e3 : -((u + 1 : Nat) : Int) * o.x = -(u : Int) * o.x - o.x := by rw [Int.neg_mul, e1, Int.neg_mul]; omega
  unfold useF runT
  simp only
  by_cases hb : i = o.b
  · subst hb
    rw [if_pos rfl, if_pos rfl, if_pos rfl, if_neg (fun q => ab q.symm), e2]
    omega
  · by_cases ha : i = o.a
    · subst ha
      rw [if_neg hb, if_neg hb, if_neg hb, if_pos rfl, if_pos rfl, if_pos rfl, e3]
      omega
    · rw [if_neg hb, if_neg hb, if_neg hb, if_neg ha, if_neg ha, if_neg ha]
      omega
def sp_l_gone (cPurse : Addr) : Sp := fun vs H Q _ => ∃ (d p : Addr) (k : Nat) (L : List Of) (i : Nat) (f : Nat → Int), vs = [.ref d, .ref p, .int (i : Int)] ∧ BoardAt H d k L ∧ (∀ o ∈ L, OfOk k o) ∧ 1 ≤ k ∧ k ≤ 4 ∧ i < L.length ∧ PurseAt cPurse H p k f ∧ (∀ j, j < k → 0 ≤ f j) ∧ (ofI L i).x ≤ f (ofI L i).a ∧
  ∀ H' q, Same H H' → PurseAt cPurse H' q k (useF (ofI L i) f) → Q (.ref q) H'
def sp_l_went (cPurse : Addr) : Sp := fun vs H Q _ => ∃ (d a w : Addr) (k : Nat) (L : List Of) (rs : List (Nat × Int)) (am : Nat → Int), vs = [.ref d, .ref a, .ref w] ∧ BoardAt H d k L ∧ (∀ o ∈ L, OfOk k o) ∧ 1 ≤ k ∧ k ≤ 4 ∧ H a = some (.tup ((vec k am).map V.int)) ∧ WayAt H w (runW rs) ∧ (∀ r ∈ rs, r.1 < L.length ∧ 1 ≤ r.2 ∧ r.2 ≤ 3) ∧ rs.length ≤ 1000 ∧ (∀ i, i < k → 0 ≤ am i) ∧
  (∀ (j : Nat) H', j < rs.length → Cov k L ((runW rs).take j) am → ¬ Cov k L ((runW rs).take (j + 1)) am → Same H H' → Q (.int (j : Int)) H') ∧
  (∀ H' p, Cov k L (runW rs) am → Same H H' → PurseAt cPurse H' p k (fun i => am i + (wayT L (runW rs)).c i) → Q (.ref p) H')
def sp_l_stuck (_ : PySem.W.Frag) : Sp := fun vs H Q _ => ∃ (d a w : Addr) (k : Nat) (L : List Of) (ss : List St) (am : Nat → Int), vs = [.ref d, .ref a, .ref w] ∧ BoardAt H d k L ∧ (∀ o ∈ L, OfOk k o) ∧ k ≤ 4 ∧ H a = some (.tup ((vec k am).map V.int)) ∧ WayAt H w ss ∧ (∀ s ∈ ss, StD L s) ∧ ss.length ≤ 1000 ∧ (∀ i, i < k → 0 ≤ am i) ∧
  (∀ (j : Nat) H', j < ss.length → Cov k L (ss.take j) am → ¬ Cov k L (ss.take (j + 1)) am → Same H H' → Q (.int (j : Int)) H') ∧
  (∀ H', Cov k L ss am → Same H H' → Q .non H')
/-- Purse(..) of amounts that stand at q -/
theorem new_purse {K : PySem.W.Frag} {cPurse q : Addr} {H : Hp} {k : Nat} {f : Nat → Int} {Q : Addr → Hp → Prop} (I : InsC K cPurse) (hq : H q = some (.tup ((vec k f).map V.int))) (k1 : 1 ≤ k) (k4 : k ≤ 4) (nn : ∀ i, i < k → 0 ≤ f i) (kk : ∀ p H', Same H H' → PurseAt cPurse H' p k f → Q p H') :
    ∀ x dx : Addr, H x = none → H dx = none → dx ≠ x → sp_Pinit K cPurse [.ref x, .ref q] (upd (upd H dx (.own x)) x (.ins cPurse dx [])) (fun v H' => v = .non ∧ Q x H') E0 := by
  intro x dx nx ndx ne
  have sx : Same H (upd (upd H dx (.own x)) x (.ins cPurse dx [])) := fun b o hb => by
    rw [upd_ne (ne_of_none hb nx), upd_ne (ne_of_none hb ndx)]
    exact hb
  refine ⟨x, dx, q, _, rfl, upd_same, sx _ _ hq, by rw [vec_len]; exact k1, by rw [vec_len]; exact k4, vec_nn nn, fun H' keep hx => ?_⟩
  have s4 : Same H H' := fun b o hb => keep b o (ne_of_none hb nx) (sx b o hb)
  exact ⟨rfl, kk x H' s4 ⟨dx, q, hx, s4 _ _ hq⟩⟩
section
variable {P : Program} {w : World} {K : PySem.W.Frag} {mg : Str → Option Value} {base : Heap} {cPurse fPi fEq fAdd fSub fIn fCov cS fB : Addr}
abbrev s_l_gone : Stmt := topS 30
abbrev N_l_gone : List Str := ["_law_board_here", "_law_purse", "_law_index", "_law_a", "_law_x", "_law_b", "_law_y", "_law_taken", "_law_given"]
theorem sc_l_gone : FnScope N_l_gone ["_law_board_here", "_law_purse", "_law_index"] (defScope s_l_gone) := ⟨rfl, rfl, rfl, by decide +kernel, rfl, by decide +kernel, by decide +kernel⟩
theorem ok_l_gone {fd1 fdS fdA : FuncData} (T : Txt mg) (R : TxP K mg cPurse fPi fEq fAdd fSub fIn fCov) (G_Purse_init : FnOk P w K mg base CX0 3 fPi fd1 ["self", "amounts"] (sp_Pinit K cPurse)) (b_Purse_init : Binds K fd1 ["self", "amounts"] [])
    (G_sub : FnOk P w K mg base CX0 5 fSub fdS ["self", "other"] (sp_Psub cPurse)) (b_sub : Binds K fdS ["self", "other"] []) (G_add : FnOk P w K mg base CX0 5 fAdd fdA ["self", "other"] (sp_Padd cPurse)) (b_add : Binds K fdA ["self", "other"] [])
    (D : Df K mg "_law_gone" s_l_gone ["_law_board_here", "_law_purse", "_law_index"]) : Cal P w K mg base "_law_gone" ["_law_board_here", "_law_purse", "_law_index"] 6 (sp_l_gone cPurse) := by
  have g_Purse := R.g
  have Mk_Purse := R.mak
  have M_sub := R.mSub
  have M_add := R.mAdd
  have S_first := R.first
  refine D.cal sc_l_gone (fun vs H Q E h => ?_) (fun f cdv A outer s H vs Q E hr h => ?_)
  · obtain ⟨d, p, k, L, i, f, rfl, _⟩ := h
    rfl
  obtain ⟨d, p, k, L, i, f, rfl, B, ok, k1, k4, il, hP, nn, cov, kk⟩ := h
  obtain ⟨t, qs, hd, ht, hL⟩ := id B
  obtain ⟨b, hb, hO⟩ := hL.get il
  have oo := ok _ (ofI_mem il)
  generalize ofI L i = o at *
  have x0 := oo.x0
  have x1 := oo.x1
  have y0 := oo.y0
  have y1 := oo.y1
  have al := oo.a
  have bl := oo.b
  have hO : H b = some (.tup [.int (o.a : Int), .int o.x, .int (o.b : Int), .int o.y]) := hO
  refine ⟨_, (pss_cons (ps_asg (pe_ix ix_tup (pe_ix ix_tup (pv 0) pe_int (fun _ _ => rfl)) (pv 2) (fun _ _ => rfl)) (pg_tup (by rfl) (pgs_cons (pg_name (i := 3) sc_l_gone.nd rfl (Or.inl rfl)) (pgs_cons (pg_name (i := 4) sc_l_gone.nd rfl (Or.inl rfl)) (pgs_cons (pg_name (i := 5) sc_l_gone.nd rfl (Or.inl rfl)) (pgs_cons (pg_name (i := 6) sc_l_gone.nd rfl (Or.inl rfl)) pgs_nil))))))
    (pss_cons (ps_par (i := 7) (j := 8) (by rfl) sc_l_gone.nd rfl rfl (by decide) rfl rfl (pa_cons (pe_op op_rep (pe_lst (pa_cons pe_int pa_nil)) (pe_ix ix_tup (pv 0) pe_int (fun _ _ => rfl))) (pa_cons (pe_op op_rep (pe_lst (pa_cons pe_int pa_nil)) (pe_ix ix_tup (pv 0) pe_int (fun _ _ => rfl))) pa_nil)) (by rfl))
    (pss_cons (ps_asg (pe_tup (pa_cons (pv 4) (pa_cons (pv 6) pa_nil))) (pg_tup (by rfl) (pgs_cons (pg_sub (pv 7) (pv 3) set_list) (pgs_cons (pg_sub (pv 8) (pv 5) set_list) pgs_nil))))
    (pss_one (ps_ret (pe_op (op_binO M_add S_first G_add b_add (hr.mono (by decide)) pass0) (pe_op (op_binO M_sub S_first G_sub b_sub (hr.mono (by decide)) pass0) (pv 1) (pe_make Mk_Purse G_Purse_init (hr.mono (by decide)) (by rfl) g_Purse b_Purse_init .nil pass0 (pa_cons (pe_callTy call_tuple_of (by rfl) T.n_tuple (by decide +kernel) (pa_cons (pv 7) pa_nil)) pa_nil))) (pe_make Mk_Purse G_Purse_init (hr.mono (by decide)) (by rfl) g_Purse b_Purse_init .nil pass0 (pa_cons (pe_callTy call_tuple_of (by rfl) T.n_tuple (by decide +kernel) (pa_cons (pv 8) pa_nil)) pa_nil)))))))), ?_⟩
  refine ⟨_, rfl, _, _, _, _, rfl, rfl, SqT.of hd, atI_nat (j := 1) rfl, _, rfl, _, _, _, _, rfl, rfl, SqT.of ht, atI_nat (j := i) hb, b, _, rfl, SqT.of hO, rfl, _, _, rfl, _, _, rfl, _, _, rfl, _, _, rfl, rfl, ?_⟩
  have lim : (by exact 1 * ((k : Nat) : Int).toNat ≤ sizeLine) := Nat.le_trans (by omega : 1 * ((k : Nat) : Int).toNat ≤ 4) (by decide)
  refine ⟨(by show 1 ≤ sizeLine; decide), fun z nz => ?_⟩
  have sz := same_upd (o := .lst [.int 0]) nz
  refine ⟨_, rfl, _, _, _, _, rfl, rfl, SqT.of (sz _ _ hd), atI_nat (j := 0) rfl, z, _, _, rfl, rfl, upd_same, by omega, by omega, lim, fun N nN => ?_⟩
  have sN := same_upd (o := .lst (List.replicate ((k : Nat) : Int).toNat [V.int 0]).flatten) nN
  have hN : upd (upd H z (.lst [.int 0])) N (.lst (List.replicate ((k : Nat) : Int).toNat [V.int 0]).flatten) N = some (.lst ((vec k fun _ => 0).map V.int)) := by rw [upd_same, zeros]
  have sa := sz.trans sN
  have freeN : H N = none := sz.free nN
  generalize upd (upd H z (.lst [.int 0])) N (.lst (List.replicate ((k : Nat) : Int).toNat [V.int 0]).flatten) = H1 at hN sa ⊢
  clear sz sN nN nz
  refine ⟨(by show 1 ≤ sizeLine; decide), fun z nz => ?_⟩
  have sz := same_upd (o := .lst [.int 0]) nz
  refine ⟨_, rfl, _, _, _, _, rfl, rfl, SqT.of (sz _ _ (sa _ _ hd)), atI_nat (j := 0) rfl, z, _, _, rfl, rfl, upd_same, by omega, by omega, lim, fun C nC => ?_⟩
  have sC := same_upd (o := .lst (List.replicate ((k : Nat) : Int).toNat [V.int 0]).flatten) nC
  have hC : upd (upd H1 z (.lst [.int 0])) C (.lst (List.replicate ((k : Nat) : Int).toNat [V.int 0]).flatten) C = some (.lst ((vec k fun _ => 0).map V.int)) := by rw [upd_same, zeros]
  have NC : N ≠ C := ne_of_none (sz _ _ hN) nC
  have hN := sC _ _ (sz _ _ hN)
  have freeC : H C = none := sa.free (sz.free nC)
  have sb := sa.trans (sz.trans sC)
  generalize upd (upd H1 z (.lst [.int 0])) C (.lst (List.replicate ((k : Nat) : Int).toNat [V.int 0]).flatten) = H2 at hN hC sb ⊢
  clear sz sC nC nz sa
  have ln : ∀ f : Nat → Int, ((vec k f).map V.int).length = k := vlen k
  refine ⟨_, _, rfl, _, rfl, _, rfl, (by show 2 ≤ sizeLine; decide), fun T' nT => ?_⟩
  have sT := same_upd (o := .tup [.int o.x, .int o.y]) nT
  have hN := sT _ _ hN
  have hC := sT _ _ hC
  have sb := sb.trans sT
  have hT : upd H2 T' (.tup [.int o.x, .int o.y]) T' = some (.tup [.int o.x, .int o.y]) := upd_same
  generalize upd H2 T' (.tup [.int o.x, .int o.y]) = H3 at hN hC sb hT ⊢
  refine ⟨T', _, rfl, SqT.of hT, rfl, _, _, rfl, _, rfl, _, rfl, _, _, _, _, rfl, rfl, hN, by rw [ln]; exact ixN_nat al, _, _, rfl, _, rfl, _, rfl, _, _, _, _, rfl, rfl, by rw [upd_ne NC.symm]; exact hC, by rw [ln]; exact ixN_nat bl, rfl, ?_⟩
  rw [vset (g := fun j => if j = o.a then o.x else 0) (if_pos rfl) fun j hj => if_neg hj, vset (g := fun j => if j = o.b then o.y else 0) (if_pos rfl) fun j hj => if_neg hj]
  have s4 : Same H (upd (upd H3 N (.lst ((vec k fun j => if j = o.a then o.x else 0).map V.int))) C (.lst ((vec k fun j => if j = o.b then o.y else 0).map V.int))) := fun b' o' e' => by
    rw [upd_ne (ne_of_none e' freeC), upd_ne (ne_of_none e' freeN)]
    exact sb _ _ e'
  have hN4 : upd (upd H3 N (.lst ((vec k fun j => if j = o.a then o.x else 0).map V.int))) C (.lst ((vec k fun j => if j = o.b then o.y else 0).map V.int)) N = some (.lst ((vec k fun j => if j = o.a then o.x else 0).map V.int)) := by rw [upd_ne NC, upd_same]
  have hC4 : upd (upd H3 N (.lst ((vec k fun j => if j = o.a then o.x else 0).map V.int))) C (.lst ((vec k fun j => if j = o.b then o.y else 0).map V.int)) C = some (.lst ((vec k fun j => if j = o.b then o.y else 0).map V.int)) := upd_same
  generalize upd (upd H3 N (.lst ((vec k fun j => if j = o.a then o.x else 0).map V.int))) C (.lst ((vec k fun j => if j = o.b then o.y else 0).map V.int)) = H4 at s4 hN4 hC4 ⊢
  clear hN hC sb hT sT nT
  -- taken
  refine ⟨_, rfl, _, rfl, _, _, rfl, .inl ⟨SqL.of hN4, fun n nn' => ?_⟩⟩
  have sn := same_upd (o := .tup ((vec k fun j => if j = o.a then o.x else 0).map V.int)) nn'
  have hn : upd H4 n (.tup ((vec k fun j => if j = o.a then o.x else 0).map V.int)) n = _ := upd_same
  generalize upd H4 n (.tup ((vec k fun j => if j = o.a then o.x else 0).map V.int)) = H5 at sn hn ⊢
  refine new_purse R.ins hn k1 k4 (fun i _ => by split <;> omega) fun p1 H6 s6 hp1 => ?_
  refine ⟨_, _, _, _, _, _, rfl, rfl, (hP.same (s4.trans (sn.trans s6))).choose_spec.choose_spec.1, hp1.choose_spec.choose_spec.1, p, p1, k, f, _, rfl, hP.same (s4.trans (sn.trans s6)), hp1, k1, k4, ?_, fun H7 p2 s7 hp2 => ?_⟩
  · intro i hi
    show (if i = o.a then o.x else 0) ≤ f i
    by_cases e : i = o.a
    · rw [if_pos e, e]; exact cov
    · rw [if_neg e]; exact nn i hi
  -- given
  have hC7 := s7 _ _ (s6 _ _ (sn _ _ hC4))
  refine ⟨_, rfl, _, _, rfl, .inl ⟨SqL.of hC7, fun c nc => ?_⟩⟩
  have sc := same_upd (o := .tup ((vec k fun j => if j = o.b then o.y else 0).map V.int)) nc
  have hc : upd H7 c (.tup ((vec k fun j => if j = o.b then o.y else 0).map V.int)) c = _ := upd_same
  generalize upd H7 c (.tup ((vec k fun j => if j = o.b then o.y else 0).map V.int)) = H8 at sc hc ⊢
  refine new_purse R.ins hc k1 k4 (fun i _ => by split <;> omega) fun p3 H9 s9 hp3 => ?_
  have hp2 := hp2.same (sc.trans s9)
  refine ⟨_, _, _, _, _, _, rfl, rfl, hp2.choose_spec.choose_spec.1, hp3.choose_spec.choose_spec.1, p2, p3, k, _, _, rfl, hp2, hp3, k1, k4, ?_, fun H10 p4 s10 hp4 => ?_⟩
  · intro i hi
    show 0 ≤ (f i - if i = o.a then o.x else 0) + (if i = o.b then o.y else 0)
    have := nn i hi
    by_cases e : i = o.a
    · rw [if_pos e, e]
      split <;> omega
    · rw [if_neg e]
      split <;> omega
  exact kk H10 p4 (s4.trans (sn.trans (s6.trans (s7.trans (sc.trans (s9.trans s10)))))) hp4
abbrev s_l_went : Stmt := topS 31
abbrev N_l_went : List Str := ["_law_board_here", "_law_begun", "_law_way", "_law_purse", "_law_place", "_law_index", "_law_times", "_law_turn"]
theorem sc_l_went : FnScope N_l_went ["_law_board_here", "_law_begun", "_law_way"] (defScope s_l_went) := ⟨rfl, rfl, rfl, by decide +kernel, rfl, by decide +kernel, by decide +kernel⟩
theorem ok_l_went {fd1 fdI : FuncData} (T : Txt mg) (R : TxP K mg cPurse fPi fEq fAdd fSub fIn fCov) (G_Purse_init : FnOk P w K mg base CX0 3 fPi fd1 ["self", "amounts"] (sp_Pinit K cPurse)) (b_Purse_init : Binds K fd1 ["self", "amounts"] [])
    (G_in : FnOk P w K mg base CX0 4 fIn fdI ["self", "x"] (sp_Pin cPurse)) (b_in : Binds K fdI ["self", "x"] []) (C_l_gone : Cal P w K mg base "_law_gone" ["_law_board_here", "_law_purse", "_law_index"] 6 (sp_l_gone cPurse))
    (D : Df K mg "_law_went" s_l_went ["_law_board_here", "_law_begun", "_law_way"]) : Cal P w K mg base "_law_went" ["_law_board_here", "_law_begun", "_law_way"] 7 (sp_l_went cPurse) := by
  obtain ⟨f_l_gone, fd_l_gone, G_l_gone, m_l_gone, k_l_gone, b_l_gone⟩ := C_l_gone
  have g_Purse := R.g
  have Mk_Purse := R.mak
  have M_in := R.mIn
  refine D.cal sc_l_went (fun vs H Q E h => ?_) (fun f cdv A outer s H vs Q E hr h => ?_)
  · obtain ⟨d, a, w, k, L, rs, am, rfl, _⟩ := h
    rfl
  obtain ⟨d, a, w, k, L, rs, am, rfl, B, ok, k1, k4, ha, W, hrs, rl, am0, kE, kQ⟩ := h
  obtain ⟨t, qs, hd, ht, hL⟩ := id B
  obtain ⟨ws, hw, hS⟩ := id W
  have lw : (ws.map V.ref).length = rs.length := by rw [List.length_map, hS.1]; unfold runW asWay; rw [List.length_map]
  refine ⟨_, (pss_cons (ps_set (i := 3) sc_l_went.nd rfl (Or.inl rfl) (pe_make Mk_Purse G_Purse_init (hr.mono (by decide)) (by rfl) g_Purse b_Purse_init .nil pass0 (pa_cons (pv 1) pa_nil)))
    (pss_cons (ps_for PassesOwn.never rfl (pi_range1 (by rfl) T.n_range (pa_cons (pe_callB call_len_seq (by rfl) T.n_len (by decide +kernel) (pa_cons (pv 2) pa_nil)) pa_nil)) (pg_name (i := 4) sc_l_went.nd rfl (Or.inl rfl))
      (pss_cons (ps_asg (pe_ix ix_tup (pv 2) (pv 4) (fun _ _ => rfl)) (pg_tup (by rfl) (pgs_cons (pg_name (i := 5) sc_l_went.nd rfl (Or.inl rfl)) (pgs_cons (pg_name (i := 6) sc_l_went.nd rfl (Or.inl rfl)) pgs_nil))))
    (pss_one (ps_for PassesOwn.never rfl (pi_range1 (by rfl) T.n_range (pa_cons (pv 6) pa_nil)) (pg_name (i := 7) sc_l_went.nd rfl (Or.inl rfl))
      (pss_cons (ps_if (pt_cmpR (op_notInO M_in G_in b_in (hr.mono (by decide)) pass0) (pe_ix ix_tup (pe_ix ix_tup (pv 0) pe_int (fun _ _ => rfl)) (pv 5) (fun _ _ => rfl)) (pv 3) (by rfl)) (pss_one (ps_ret (pv 4))) pss_nil)
    (pss_one (ps_set (i := 3) sc_l_went.nd rfl (Or.inl rfl) (pe_call G_l_gone (hr.mono (by decide)) (by rfl) m_l_gone k_l_gone b_l_gone .nil pass0 (pa_cons (pv 0) (pa_cons (pv 3) (pa_cons (pv 5) pa_nil)))))))))))
    (pss_one (ps_ret (pv 3))))), ?_⟩
  refine ⟨_, rfl, new_purse R.ins ha k1 k4 am0 fun p1 H1 s1 hp1 => ?_⟩
  refine ⟨_, rfl, w, _, rfl, .inr (SqT.of (s1 _ _ hw)), _, rfl, by omega, by rw [lw]; omega, ?_⟩
  rw [show Int.toNat (((ws.map V.ref).length : Nat) : Int) = rs.length by rw [lw]; omega]
  have z0 : ∀ i, am i + (wayT L ((runW rs).take 0)).c i = am i := fun i => Int.add_zero _
  refine for_range (lo := 0) (n := rs.length) (fun j σ H' => ∃ (p' : Addr) (v4 v5 v6 v7 : Option V), σ = [some (.ref d), some (.ref a), some (.ref w), some (.ref p'), v4, v5, v6, v7] ∧ Same H H' ∧ Cov k L ((runW rs).take j) am ∧ PurseAt cPurse H' p' k (fun i => am i + (wayT L ((runW rs).take j)).c i) ∧ ∀ i, i < k → 0 ≤ am i + (wayT L ((runW rs).take j)).c i)
    ⟨p1, none, none, none, none, rfl, s1, fun i hi => am0 i hi, by rw [show (fun i => am i + (wayT L ((runW rs).take 0)).c i) = am from funext z0]; exact hp1, fun i hi => by rw [z0]; exact am0 i hi⟩ ?_ ?_
  · rintro j σ H2 hj ⟨p', v4, v5, v6, v7, rfl, s2, cv, hp, pos⟩
    obtain ⟨⟨ix, m⟩, hr'⟩ : ∃ r, rs[j]? = some r := ⟨_, List.getElem?_eq_getElem hj⟩
    obtain ⟨il, m1, m3⟩ := hrs _ (List.mem_of_getElem? hr')
    have il : ix < L.length := il
    have m1 : 1 ≤ m := m1
    have m3 : m ≤ 3 := m3
    have hst : (runW rs)[j]? = some (.run ix m) := by unfold runW asWay; rw [List.getElem?_map, hr']; rfl
    obtain ⟨q, hq⟩ : ∃ q, ws[j]? = some q := ⟨_, List.getElem?_eq_getElem (by rw [← lw, List.length_map] at hj; exact hj)⟩
    obtain ⟨st, hst', hqa⟩ := hS.2 j q hq
    have est : st = .run ix m := Option.some.inj (hst'.symm.trans hst)
    subst est
    have hqa : H q = some (.tup [.int (ix : Int), .int m]) := hqa
    have cs := cov_step (k := k) (L := L) hst cv
    have wt := wayT_take (L := L) hst
    generalize hW1 : (runW rs).take (j + 1) = W1 at *
    generalize hW0 : (runW rs).take j = W0 at *
    rw [Int.zero_add]
    refine ⟨_, rfl, _, rfl, _, _, _, _, rfl, rfl, SqT.of (s2 _ _ hw), atI_nat (j := j) (by rw [List.getElem?_map, hq]; rfl), q, _, rfl, SqT.of (s2 _ _ hqa), rfl, _, _, rfl, _, _, rfl, rfl, ?_⟩
    obtain ⟨b, hb, hO⟩ := hL.get il
    have oo := ok _ (ofI_mem il)
    have cs' : Cov k L W1 am ↔ ∀ i, i < k → (runT (ofI L ix) m).n i ≤ am i + (wayT L W0).c i := cs
    have wt' : ∀ i, (wayT L W1).c i = (wayT L W0).c i + (runT (ofI L ix) m).c i := fun i => by rw [wt]; rfl
    have x0 := oo.x0
    have ab := oo.ne
    have al := oo.a
    refine ⟨_, rfl, m, rfl, by omega, by omega, ?_⟩
    refine for_range (lo := 0) (n := m.toNat) (fun u σ H' => ∃ (p' : Addr) (v7 : Option V), σ = [some (.ref d), some (.ref a), some (.ref w), some (.ref p'), some (.int (j : Int)), some (.int (ix : Int)), some (.int m), v7] ∧ Same H H' ∧ PurseAt cPurse H' p' k (fun i => am i + (wayT L W0).c i + (runT (ofI L ix) (u : Int)).c i) ∧ ∀ i, i < k → 0 ≤ am i + (wayT L W0).c i + (runT (ofI L ix) (u : Int)).c i)
      ⟨p', v7, rfl, s2, ?_, ?_⟩ ?_ ?_
    · rw [show (fun i => am i + (wayT L W0).c i + (runT (ofI L ix) ((0 : Nat) : Int)).c i) = fun i => am i + (wayT L W0).c i from funext fun i => by rw [runT_zero]; omega]
      exact hp
    · intro i hi
      rw [runT_zero]
      have := pos i hi
      omega
    · rintro u σ H3 hu ⟨p2, v7, rfl, s3, hp2, pos2⟩
      obtain ⟨dx, tt, hp2a, hp2b⟩ := id hp2
      refine ⟨_, rfl, _, _, _, _, rfl, rfl, SqT.of (s3 _ _ hd), atI_nat (j := 1) rfl, _, rfl, _, _, _, _, rfl, rfl, SqT.of (s3 _ _ ht), atI_nat (j := ix) hb, _, rfl, p2, dx, _, rfl, hp2a, p2, b, k, _, ofI L ix, rfl, hp2, s3 _ _ hO, oo, _, rfl, _, rfl, ?_⟩
      by_cases c : (ofI L ix).x ≤ am (ofI L ix).a + (wayT L W0).c (ofI L ix).a + (runT (ofI L ix) (u : Int)).c (ofI L ix).a
      · refine iteNP c ⟨_, rfl, _, rfl, _, rfl, d, p2, k, L, ix, _, rfl, B.same s3, ok, k1, k4, il, hp2, pos2, c, fun H4 p3 s4 hp3 => ?_⟩
        have eu : useF (ofI L ix) (fun i => am i + (wayT L W0).c i + (runT (ofI L ix) (u : Int)).c i) = fun i => am i + (wayT L W0).c i + (runT (ofI L ix) ((u + 1 : Nat) : Int)).c i := useF_run ab _ _
        rw [eu] at hp3
        refine ⟨p3, _, rfl, s3.trans s4, hp3, fun i hi => ?_⟩
        have := congrFun eu i
        rw [← this]
        have q := pos2 i hi
        have y0 := oo.y0
        show 0 ≤ (am i + (wayT L W0).c i + (runT (ofI L ix) (u : Int)).c i) - (if i = (ofI L ix).a then (ofI L ix).x else 0) + (if i = (ofI L ix).b then (ofI L ix).y else 0)
        by_cases e : i = (ofI L ix).a
        · rw [if_pos e, e]
          split <;> omega
        · rw [if_neg e]
          split <;> omega
      · refine iteNN c ⟨_, rfl, kE j H3 hj (by rw [hW0]; exact cv) (fun q => c ?_) s3⟩
        rw [hW1] at q
        have q1 : (runT (ofI L ix) m).n (ofI L ix).a ≤ _ := cs'.mp q _ al
        rw [show (runT (ofI L ix) m).n (ofI L ix).a = m * (ofI L ix).x from if_pos rfl] at q1
        rw [show (runT (ofI L ix) (u : Int)).c (ofI L ix).a = -(u : Int) * (ofI L ix).x from (if_neg ab).trans (if_pos rfl)]
        have q2 : ((u : Int) + 1) * (ofI L ix).x ≤ m * (ofI L ix).x := Int.mul_le_mul_of_nonneg_right (by omega) (by omega)
        rw [Int.add_mul, Int.one_mul] at q2
        rw [Int.neg_mul]
        omega
    rintro σ H3 ⟨p2, v7, rfl, s3, hp2, pos2⟩
    have em : ((m.toNat : Nat) : Int) = m := by omega
    rw [em] at hp2 pos2
    refine ⟨p2, _, _, _, _, rfl, s3, cs'.mpr fun i hi => ?_, ?_, fun i hi => ?_⟩
    · by_cases e : i = (ofI L ix).a
      · subst e
        have q1 := pos2 _ al
        rw [show (runT (ofI L ix) m).c (ofI L ix).a = -m * (ofI L ix).x from (if_neg ab).trans (if_pos rfl), Int.neg_mul] at q1
        rw [show (runT (ofI L ix) m).n (ofI L ix).a = m * (ofI L ix).x from if_pos rfl]
        omega
      · rw [show (runT (ofI L ix) m).n i = 0 from if_neg e]
        exact pos i hi
    · rw [show (fun i => am i + (wayT L W1).c i) = fun i => am i + (wayT L W0).c i + (runT (ofI L ix) m).c i from funext fun i => by rw [wt']; omega]
      exact hp2
    · have := pos2 i hi
      rw [wt']
      omega
  rintro σ H2 ⟨p', v4, v5, v6, v7, rfl, s2, cv, hp, pos⟩
  have tk : (runW rs).take rs.length = runW rs := List.take_of_length_le (by unfold runW asWay; rw [List.length_map]; exact Nat.le_refl _)
  rw [tk] at cv hp
  exact ⟨_, rfl, kQ H2 p' cv s2 hp⟩
abbrev s_l_stuck : Stmt := topS 32
abbrev N_l_stuck : List Str := ["_law_board_here", "_law_begun", "_law_way", "error"]
theorem sc_l_stuck : FnScope N_l_stuck ["_law_board_here", "_law_begun", "_law_way"] (defScope s_l_stuck) := ⟨rfl, rfl, rfl, by decide +kernel, rfl, by decide +kernel, by decide +kernel⟩
theorem ok_l_stuck (T : Txt mg) (XStuck : XVal K mg "Stuck" "index" cS fB) (C_walk : CalX P w K mg base "walk" ["board", "purse", "way"] 5 (sp_walkX cS)) (D : Df K mg "_law_stuck" s_l_stuck ["_law_board_here", "_law_begun", "_law_way"]) : Cal P w K mg base "_law_stuck" ["_law_board_here", "_law_begun", "_law_way"] 6 (sp_l_stuck K) := by
  obtain ⟨f_walk, fd_walk, G_walk, m_walk, k_walk, b_walk⟩ := C_walk
  refine D.cal sc_l_stuck (fun vs H Q E h => ?_) (fun f cdv A outer s H vs Q E hr h => ?_)
  · obtain ⟨d, a, w, k, L, ss, am, rfl, _⟩ := h
    rfl
  obtain ⟨d, a, w, k, L, ss, am, rfl, B, ok, k4, ha, W, hs, sl, am0, kE, kQ⟩ := h
  refine ⟨_, (pss_cons (ps_try_names rfl rfl sc_l_stuck.nd
      (fun W pn xe tk _ => (pss_one (ps_expr (pe_callS G_walk (hr.mono (by decide)) rfl m_walk k_walk b_walk (fun σ => passAt tk σ) (pa_cons (pv 0) (pa_cons (pv 1) (pa_cons (pv 2) pa_nil)))))))
      (.cons (i := 3) ⟨rfl, by decide, .inl XStuck.g⟩ rfl rfl (fun a oe cls d pn hz hf => (pss_one (ps_ret (pe_xf XStuck.xf XStuck.no hz hf (pv 3)))))
      .nil))
    (pss_one (ps_ret pe_non))), ?_⟩
  refine ⟨_, rfl, _, rfl, _, rfl, d, a, w, k, L, ss, am, rfl, B, ok, k4, ha, W, hs, sl, am0, fun j H' x hj c nc s' hx => ?_, fun H' p c s' hp => ?_⟩
  · refine ⟨true, XStuck.te, fun _ ea nea => ?_, fun z => nomatch z⟩
    exact ⟨_, rfl, rfl, rfl, x, _, .int (j : Int), rfl, hx, rfl, kE j H' hj c nc s'⟩
  · exact kQ H' c s'
end
end Sm

set_option Elab.async false
set_option linter.all false
set_option maxRecDepth 100000
set_option maxHeartbeats 8000000
namespace Sm
open PySem PySem.Spec PyProof.Rows L2
open C8 (pss_cut tCut)
/-! ### needs and changes of ways of runs -/
theorem run_ok0 {k : Nat} {o : Of} (h : OfOk k o) {m : Int} (m1 : 1 ≤ m) (j : Nat) : 0 ≤ (runT o m).n j ∧ 0 ≤ (runT o m).n j + (runT o m).c j := by
  have x0 := h.x0
  have y0 := h.y0
  have p1 : 0 ≤ m * o.x := Int.mul_nonneg (by omega) (by omega)
  have p2 : 0 ≤ m * o.y := Int.mul_nonneg (by omega) (by omega)
  constructor
  · show 0 ≤ (if j = o.a then m * o.x else 0)
    split <;> omega
  · show 0 ≤ (if j = o.a then m * o.x else 0) + (if j = o.b then m * o.y else if j = o.a then -m * o.x else 0)
    rw [Int.neg_mul]
    split <;> split <;> omega
theorem way_ok0 {k : Nat} {L : List Of} (ok : ∀ o ∈ L, OfOk k o) {rs : List (Nat × Int)} (h : ∀ r ∈ rs, r.1 < L.length ∧ 1 ≤ r.2) (j : Nat) : 0 ≤ (wayT L (runW rs)).n j ∧ 0 ≤ (wayT L (runW rs)).n j + (wayT L (runW rs)).c j := by
  unfold runW
  rw [asWay_T]
  suffices key : ∀ (rs : List (Nat × Int)) (t : Tl), (0 ≤ t.n j ∧ 0 ≤ t.n j + t.c j) → (∀ r ∈ rs, r.1 < L.length ∧ 1 ≤ r.2) → 0 ≤ (rs.foldl (fun t r => t.seq (runT (ofI L r.1) r.2)) t).n j ∧ 0 ≤ (rs.foldl (fun t r => t.seq (runT (ofI L r.1) r.2)) t).n j + (rs.foldl (fun t r => t.seq (runT (ofI L r.1) r.2)) t).c j from key rs Tl.zero ⟨Int.le_refl _, by show 0 ≤ (0 : Int) + 0; omega⟩ h
  intro rs
  induction rs with
  | nil => intro t ht _; exact ht
  | cons r rs ih =>
    intro t ht h
    have hr := h r List.mem_cons_self
    have q := run_ok0 (ok _ (ofI_mem hr.1)) hr.2 j
    refine ih _ ⟨?_, ?_⟩ fun r' e => h r' (List.mem_cons_of_mem _ e)
    · show 0 ≤ max (t.n j) _
      omega
    · show 0 ≤ max (t.n j) ((runT (ofI L r.1) r.2).n j - t.c j) + (t.c j + (runT (ofI L r.1) r.2).c j)
      omega
/-- the first step that cannot be walked is one -/
theorem stuck_at {k : Nat} {L : List Of} {ss : List St} {am : Nat → Int} {i j : Nat} (c1 : Cov k L (ss.take i) am) (n1 : ¬ Cov k L (ss.take (i + 1)) am) (c2 : Cov k L (ss.take j) am) (n2 : ¬ Cov k L (ss.take (j + 1)) am) : i = j := by
  have key : ∀ {i j : Nat}, ¬ Cov k L (ss.take (i + 1)) am → Cov k L (ss.take j) am → ¬ i < j := fun {i j} n c h => n (by
    have := cov_take c (i + 1)
    rwa [List.take_take, Nat.min_eq_left (by omega)] at this)
  have h1 := key n1 c2
  have h2 := key n2 c1
  omega
theorem cov_all {k : Nat} {L : List Of} {ss : List St} {am : Nat → Int} : ((List.range k).all fun i => decide ((wayT L ss).n i ≤ am i)) = true ↔ Cov k L ss am := by
  rw [List.all_eq_true]
  constructor
  · intro h i hi
    exact of_decide_eq_true (h i (List.mem_range.mpr hi))
  · intro h i hi
    exact decide_eq_true (h i (List.mem_range.mp hi))
def sp_walk (_ : PySem.W.Frag) : Sp := fun vs H Q _ => ∃ (d a w : Addr) (k : Nat) (L : List Of) (ss : List St) (am : Nat → Int), vs = [.ref d, .ref a, .ref w] ∧ BoardAt H d k L ∧ (∀ o ∈ L, OfOk k o) ∧ k ≤ 4 ∧ H a = some (.tup ((vec k am).map V.int)) ∧ WayAt H w ss ∧ (∀ s ∈ ss, StD L s) ∧ ss.length ≤ 1000 ∧ (∀ i, i < k → 0 ≤ am i) ∧ Cov k L ss am ∧
  ∀ H' p, Same H H' → H' p = some (.tup ((vec k fun i => am i + (wayT L ss).c i).map V.int)) → Q (.ref p) H'
theorem ok_walk0 {P : Program} {w : World} {K : PySem.W.Frag} {mg : Str → Option Value} {base : Heap} {cS : Addr} (C : CalX P w K mg base "walk" ["board", "purse", "way"] 5 (sp_walkX cS)) : Cal P w K mg base "walk" ["board", "purse", "way"] 5 (sp_walk K) := by
  obtain ⟨f, fd, F, m, kp, b⟩ := C
  refine ⟨f, fd, ⟨fun vs H Q E h => ?_, fun A outer s H args us vs Q E hr e0 hb hv h => ?_⟩, m, kp, b⟩
  · obtain ⟨d, a, w, k, L, ss, am, rfl, _⟩ := h
    rfl
  obtain ⟨d, a, w, k, L, ss, am, rfl, B, ok, k4, ha, W, hs, sl, am0, cv, kk⟩ := h
  refine codeAny_mono (F.run A outer s H args us _ Q E0 hr e0 hb hv ⟨d, a, w, k, L, ss, am, rfl, B, ok, k4, ha, W, hs, sl, am0, fun j H' x hj _ nc _ _ => (nc (cov_take cv _)).elim, fun H' p _ s' hp => kk H' p s' hp⟩) ?_
  rintro (e | fl) s' got
  · obtain ⟨_, _, _, _, _, _, _, _, _, _, _, _, hE⟩ := got
    exact hE.elim
  · match fl, got with
    | .next, got => exact got.elim
    | .brk, got => exact got.elim
    | .cont, got => exact got.elim
    | .ret u, got => exact got
def sp_l_right (_ : PySem.W.Frag) : Sp := fun vs H Q _ => ∃ (d a w : Addr) (k : Nat) (L : List Of) (rs : List (Nat × Int)) (am : Nat → Int), vs = [.ref d, .ref a, .ref w] ∧ BoardAt H d k L ∧ (∀ o ∈ L, OfOk k o) ∧ 1 ≤ k ∧ k ≤ 4 ∧ H a = some (.tup ((vec k am).map V.int)) ∧ WayAt H w (runW rs) ∧ (∀ r ∈ rs, r.1 < L.length ∧ 1 ≤ r.2 ∧ r.2 ≤ 3) ∧ rs.length ≤ 1000 ∧ (∀ i, i < k → 0 ≤ am i) ∧ ∀ H', Same H H' → Q (.bl true) H'
section
variable {P : Program} {w : World} {K : PySem.W.Frag} {mg : Str → Option Value} {base : Heap} {cPurse fPi fEq fAdd fSub fIn fCov cS fB : Addr}
abbrev s_l_right : Stmt := topS 33
abbrev N_l_right : List Str := ["_law_board_here", "_law_begun", "_law_way", "_law_end", "_law_place", "_law_need", "_law_change", "_law_rest", "_law_now", "_law_past"]
theorem sc_l_right : FnScope N_l_right ["_law_board_here", "_law_begun", "_law_way"] (defScope s_l_right) := ⟨rfl, rfl, rfl, by decide +kernel, rfl, by decide +kernel, by decide +kernel⟩
theorem ok_l_right {f : Addr} {fd fd1 fdS fdA fdE fdC : FuncData} (T : Txt mg) (R : TxP K mg cPurse fPi fEq fAdd fSub fIn fCov) (G_Purse_init : FnOk P w K mg base CX0 3 fPi fd1 ["self", "amounts"] (sp_Pinit K cPurse)) (b_Purse_init : Binds K fd1 ["self", "amounts"] [])
    (G_sub : FnOk P w K mg base CX0 5 fSub fdS ["self", "other"] (sp_Psub cPurse)) (b_sub : Binds K fdS ["self", "other"] []) (G_add : FnOk P w K mg base CX0 5 fAdd fdA ["self", "other"] (sp_Padd cPurse)) (b_add : Binds K fdA ["self", "other"] [])
    (G_eq : FnOk P w K mg base CX0 1 fEq fdE ["self", "other"] (sp_Peq cPurse)) (b_eq : Binds K fdE ["self", "other"] []) (G_Purse_covers : FnOk P w K mg base CX0 2 fCov fdC ["self", "other"] (sp_Pcov cPurse)) (b_Purse_covers : Binds K fdC ["self", "other"] [])
    (C_l_went : Cal P w K mg base "_law_went" ["_law_board_here", "_law_begun", "_law_way"] 7 (sp_l_went cPurse)) (C_l_stuck : Cal P w K mg base "_law_stuck" ["_law_board_here", "_law_begun", "_law_way"] 6 (sp_l_stuck K))
    (C_need_of : Cal P w K mg base "need_of" ["board", "way"] 6 (sp_need_of K)) (C_change_of : Cal P w K mg base "change_of" ["board", "way"] 6 (sp_change_of K)) (C_walk : Cal P w K mg base "walk" ["board", "purse", "way"] 5 (sp_walk K))
    (F : Fun K "_law_right" "_law_right" s_l_right f fd) : FnG P w K mg base 8 f fd ["_law_board_here", "_law_begun", "_law_way"] (sp_l_right K) := by
  obtain ⟨f_l_went, fd_l_went, G_l_went, m_l_went, k_l_went, b_l_went⟩ := C_l_went
  obtain ⟨f_l_stuck, fd_l_stuck, G_l_stuck, m_l_stuck, k_l_stuck, b_l_stuck⟩ := C_l_stuck
  obtain ⟨f_need_of, fd_need_of, G_need_of, m_need_of, k_need_of, b_need_of⟩ := C_need_of
  obtain ⟨f_change_of, fd_change_of, G_change_of, m_change_of, k_change_of, b_change_of⟩ := C_change_of
  obtain ⟨f_walk, fd_walk, G_walk, m_walk, k_walk, b_walk⟩ := C_walk
  have g_Purse := R.g
  have Mk_Purse := R.mak
  have Cl_Purse := R.ins.cl
  have Me_Purse_covers := R.meC
  have M_sub := R.mSub
  have M_add := R.mAdd
  have M_eq := R.mEq
  have S_first := R.first
  have S_ne := R.ne
  have S_mro := R.ins.hm
  refine FnG.body F sc_l_right (fun vs H Q E h => ?_) (fun cdv A outer s H vs Q E gu hr h => ?_)
  · obtain ⟨d, a, w, k, L, rs, am, rfl, _⟩ := h
    rfl
  obtain ⟨d, a, w, k, L, rs, am, rfl, B, ok, k1, k4, ha, W, hrs, rl, am0, kk⟩ := h
  have wk := way_ok0 ok fun r hr => ⟨(hrs r hr).1, (hrs r hr).2.1⟩
  have hsD : ∀ s ∈ runW rs, StD L s := fun s hs => by
    obtain ⟨r, hr, rfl⟩ := List.mem_map.mp hs
    exact (hrs r hr).1
  have sl : (runW rs).length ≤ 1000 := by unfold runW asWay; rw [List.length_map]; exact rl
  have lr : (runW rs).length = rs.length := by unfold runW asWay; rw [List.length_map]
  refine ⟨_, (pss_cons (ps_par (i := 3) (j := 4) (by rfl) sc_l_right.nd rfl rfl (by decide) rfl rfl (pa_cons (pe_call G_l_went (hr.mono (by decide)) (by rfl) m_l_went k_l_went b_l_went .nil pass0 (pa_cons (pv 0) (pa_cons (pv 1) (pa_cons (pv 2) pa_nil)))) (pa_cons (pe_call G_l_stuck (hr.mono (by decide)) (by rfl) m_l_stuck k_l_stuck b_l_stuck .nil pass0 (pa_cons (pv 0) (pa_cons (pv 1) (pa_cons (pv 2) pa_nil)))) pa_nil)) (by rfl))
    (pss_cons (ps_par (i := 5) (j := 6) (by rfl) sc_l_right.nd rfl rfl (by decide) rfl rfl (pa_cons (pe_call G_need_of (hr.mono (by decide)) (by rfl) m_need_of k_need_of b_need_of .nil pass0 (pa_cons (pv 0) (pa_cons (pv 2) pa_nil))) (pa_cons (pe_call G_change_of (hr.mono (by decide)) (by rfl) m_change_of k_change_of b_change_of .nil pass0 (pa_cons (pv 0) (pa_cons (pv 2) pa_nil))) pa_nil)) (by rfl))
    (pss_cons (ps_if (pt_cmpR op_ne (pe_callB (call_reprQ gu ⟨_, hr⟩) (by rfl) T.n_repr (by decide +kernel) (pa_cons (pe_meth (pe_make Mk_Purse G_Purse_init (hr.mono (by decide)) (by rfl) g_Purse b_Purse_init .nil pass0 (pa_cons (pv 1) pa_nil)) Cl_Purse Me_Purse_covers G_Purse_covers (hr.mono (by decide)) b_Purse_covers .nil pass0 (pa_cons (pe_make Mk_Purse G_Purse_init (hr.mono (by decide)) (by rfl) g_Purse b_Purse_init .nil pass0 (pa_cons (pv 5) pa_nil)) pa_nil)) pa_nil)) (pe_callB (call_reprQ gu ⟨_, hr⟩) (by rfl) T.n_repr (by decide +kernel) (pa_cons (pe_cmpR op_isN (pv 4) pe_non (nomark _)) pa_nil)) (nomark _)) (pss_one (ps_ret pe_bl)) pss_nil)
    (pss_cons (ps_if (pt_cmpR op_notN (pv 4) pe_non (nomark _)) (pss_one (ps_ret (pe_cmpR op_eq (pv 3) (pv 4) (nomark _)))) pss_nil)
    (pss_cons (ps_if (PW.pt (pw_or (pt_cmpR (op_neO M_eq S_ne S_mro G_eq b_eq (hr.mono (by decide)) pass0) (pv 3) (pe_make Mk_Purse G_Purse_init (hr.mono (by decide)) (by rfl) g_Purse b_Purse_init .nil pass0 (pa_cons (pe_call G_walk (hr.mono (by decide)) (by rfl) m_walk k_walk b_walk .nil pass0 (pa_cons (pv 0) (pa_cons (pv 1) (pa_cons (pv 2) pa_nil)))) pa_nil)) (nomark _)) (pw_or1 (pt_cmpR op_notN (pe_call G_l_stuck (hr.mono (by decide)) (by rfl) m_l_stuck k_l_stuck b_l_stuck .nil pass0 (pa_cons (pv 0) (pa_cons (pv 5) (pa_cons (pv 2) pa_nil)))) pe_non (nomark _))))) (pss_one (ps_ret pe_bl)) pss_nil)
    (pss_cons (ps_setLc (i := 7) (own := [("_law_now", 8), ("_law_past", 9)]) (g := gTup K 2 (gCons (gName 8) (gCons (gName 9) gNil))) (tt := tYes) rfl sc_l_right.nd rfl rfl (sw_true rfl rfl rfl (by decide +kernel)) (RZ.pi_zipA (by rfl) T.n_zip (pa_cons (pe_fld (pv 3) rfl) (pa_cons (pv 1) pa_nil))) (blkOk_by (own := [("_law_now", 8), ("_law_past", 9)]) (N := N_l_right) (sc := defScope s_l_right) (by decide +kernel)) (fun _ _ _ _ _ => pg_tup (by rfl) (pgs_cons (pg_name (i := 8) sc_l_right.nd rfl (Or.inl rfl)) (pgs_cons (pg_name (i := 9) sc_l_right.nd rfl (Or.inl rfl)) pgs_nil))) (fun _ _ _ _ _ => pts_nil) (fun _ _ _ _ _ => (pe_op op_sub (pv 8) (pv 9))))
    (pss_one (ps_ret (pe_and (pe_cmpR (op_eqD hr.units) (pe_callTy call_list_of (by rfl) T.n_list (by decide +kernel) (pa_cons (pv 6) pa_nil)) (pv 7) (nomark _)) (pe_one (pe_cmpR (op_eqD hr.units) (pe_call G_walk (hr.mono (by decide)) (by rfl) m_walk k_walk b_walk .nil pass0 (pa_cons (pv 0) (pa_cons (pv 5) (pa_cons (pv 2) pa_nil)))) (pe_fld (pe_op (op_binO M_sub S_first G_sub b_sub (hr.mono (by decide)) pass0) (pe_op (op_binO M_add S_first G_add b_add (hr.mono (by decide)) pass0) (pe_make Mk_Purse G_Purse_init (hr.mono (by decide)) (by rfl) g_Purse b_Purse_init .nil pass0 (pa_cons (pv 5) pa_nil)) (pv 3)) (pe_make Mk_Purse G_Purse_init (hr.mono (by decide)) (by rfl) g_Purse b_Purse_init .nil pass0 (pa_cons (pv 1) pa_nil))) rfl) (nomark _)))))))))))), ?_⟩
  by_cases cv : Cov k L (runW rs) am
  · refine ⟨_, rfl, _, rfl, _, rfl, d, a, w, k, L, rs, am, rfl, B, ok, k1, k4, ha, W, hrs, rl, am0, fun j H' hj c nc s' => absurd (cov_take cv (j + 1)) nc, fun H1 p1 _ s1 hp1 => ?_⟩
    refine ⟨_, rfl, _, rfl, _, rfl, d, a, w, k, L, runW rs, am, rfl, B.same s1, ok, k4, s1 _ _ ha, W.same s1, hsD, sl, am0, fun j H' hj c nc s' => absurd (cov_take cv (j + 1)) nc, fun H2 _ s2 => ?_⟩
    refine ⟨_, _, rfl, ?_⟩
    have t2 := s1.trans s2
    refine ⟨_, rfl, _, rfl, d, w, k, L, runW rs, rfl, B.same t2, ok, k4, W.same t2, hsD, fun H3 nA s3 hN => ?_⟩
    have t3 := t2.trans s3
    refine ⟨_, rfl, _, rfl, d, w, k, L, runW rs, rfl, B.same t3, ok, k4, W.same t3, hsD, fun H4 cA s4 hC => ?_⟩
    have t4 := t3.trans s4
    have hN4 := s4 _ _ hN
    refine ⟨_, _, rfl, ?_⟩
    have hp14 := hp1.same (s2.trans (s3.trans s4))
    clear hN s3 s4 s2 s1 hp1 t2 t3
    refine ⟨_, rfl, new_purse R.ins (t4 _ _ ha) k1 k4 am0 fun p2 H5 s5 hp2 => ?_⟩
    obtain ⟨dx2, t2, q2, q2'⟩ := id hp2
    refine ⟨p2, dx2, _, rfl, q2, rfl, _, rfl, new_purse R.ins (s5 _ _ hN4) k1 k4 (fun i _ => (wk i).1) fun p3 H6 s6 hp3 => ?_⟩
    refine ⟨p2, p3, k, am, _, rfl, hp2.same s6, hp3, k4, fun H7 s7 => ?_⟩
    rw [cov_all.mpr cv]
    refine ⟨_, _, rfl, .bl true, rfl, by decide, by decide +kernel, _, rfl, rfl, _, _, rfl, .bl _, rfl, by decide, by decide +kernel, ?_⟩
    have t7 := t4.trans (s5.trans (s6.trans s7))
    have hp1 := hp14.same (s5.trans (s6.trans s7))
    have hN := s7 _ _ (s6 _ _ (s5 _ _ hN4))
    have hC := s7 _ _ (s6 _ _ (s5 _ _ hC))
    clear hp14 hN4 hp2 hp3 q2 q2' s5 s6 s7 t4
    refine ⟨rfl, _, rfl, iteNP rfl ⟨_, rfl, rfl, _, rfl, iteNP rfl ?_⟩⟩
    have pos : ∀ i, i < k → 0 ≤ am i + (wayT L (runW rs)).c i := fun i hi => by
      have := (wk i).2
      have := cv i hi
      omega
    refine ⟨_, rfl, _, rfl, _, rfl, _, rfl, d, a, w, k, L, runW rs, am, rfl, B.same t7, ok, k4, t7 _ _ ha, W.same t7, hsD, sl, am0, cv, fun H8 pw s8 hpw => ?_⟩
    refine new_purse R.ins hpw k1 k4 pos fun p4 H9 s9 hp4 => ?_
    have t9 := t7.trans (s8.trans s9)
    have hp1 := hp1.same (s8.trans s9)
    obtain ⟨dx1, u1, q1, q1'⟩ := id hp1
    obtain ⟨dx4, u4, q4, q4'⟩ := id hp4
    refine ⟨p1, dx1, _, p4, dx4, _, rfl, rfl, q1, q4, p1, p4, k, _, _, rfl, hp1, hp4, fun i _ => rfl, k4, true, rfl, _, rfl, iteF ?_⟩
    have hN := s9 _ _ (s8 _ _ hN)
    have hC := s9 _ _ (s8 _ _ hC)
    refine ⟨_, rfl, _, rfl, _, rfl, d, nA, w, k, L, runW rs, _, rfl, B.same t9, ok, k4, hN, W.same t9, hsD, sl, fun i _ => (wk i).1, fun j H' hj c nc s' => absurd (cov_take (fun i _ => Int.le_refl _) (j + 1)) nc, fun H10 _ s10 => ?_⟩
    refine ⟨rfl, _, rfl, iteNP rfl ?_⟩
    have t10 := t9.trans s10
    have hp1 := hp1.same s10
    have hN := s10 _ _ hN
    have hC := s10 _ _ hC
    have q1 := s10 _ _ q1
    have q1' := s10 _ _ q1'
    clear hp4 q4 q4' t9 t7 hpw s8 s9 s10
    refine ⟨_, rfl, p1, cPurse, dx1, _, _, rfl, q1, R.ins.cl, R.na, rfl, _, rfl, u1, a, _, _, rfl, .inr ⟨SqT.of q1', SqT.of (t10 _ _ ha), fun U nU => ?_⟩⟩
    refine lc_mZ (fun i => .int (am i + (wayT L (runW rs)).c i - am i)) q1' (t10 _ _ ha) (vlen k _) (vlen k _) nU (by omega) ?_ gTup2_mono ?_
    · intro i x y T' H' hx hy s' hT R' hR
      have hi : i < k := by
        have := (List.getElem?_eq_some_iff.mp hx).1
        rwa [vlen] at this
      rw [vget hi] at hx hy
      have hx := (Option.some.inj hx).symm
      have hy := (Option.some.inj hy).symm
      subst hx hy
      exact ⟨T', _, rfl, SqT.of hT, rfl, _, _, rfl, _, _, rfl, rfl, rfl, _, rfl, _, rfl, _, _, rfl, rfl, hR H' (Same.refl _)⟩
    intro H11 s11 hU
    rw [rng_vec, show (fun i => am i + (wayT L (runW rs)).c i - am i) = (wayT L (runW rs)).c from funext fun i => by omega] at hU
    have t11 := t10.trans s11
    refine ⟨_, rfl, cA, _, rfl, .inr (SqT.of (s11 _ _ hC)), fun l nl => ?_⟩
    have s12 := same_upd (o := .lst ((vec k (wayT L (runW rs)).c).map V.int)) nl
    refine ⟨_, rfl, _, _, .lst (SqL.of upd_same) (Sm.dp_ints _), .lst (SqL.of (s12 _ _ hU)) (Sm.dp_ints _), lst_shaped _, lst_shaped _, _, rfl, ?_⟩
    rw [eqv_selfL]
    refine iteT ?_
    have t12 := t11.trans s12
    have hN := s12 _ _ (s11 _ _ hN)
    have hp1 := hp1.same (s11.trans s12)
    refine ⟨_, rfl, _, rfl, _, rfl, d, nA, w, k, L, runW rs, _, rfl, B.same t12, ok, k4, hN, W.same t12, hsD, sl, fun i _ => (wk i).1, fun i _ => Int.le_refl _, fun H13 pr s13 hpr => ?_⟩
    have t13 := t12.trans s13
    refine ⟨_, rfl, new_purse R.ins (s13 _ _ hN) k1 k4 (fun i _ => (wk i).1) fun p5 H14 s14 hp5 => ?_⟩
    have hp1 := hp1.same (s13.trans s14)
    obtain ⟨dx1, u1, q1, q1'⟩ := id hp1
    obtain ⟨dx5, u5, q5, q5'⟩ := id hp5
    refine ⟨_, rfl, p5, dx5, _, p1, dx1, _, rfl, rfl, q5, q1, p5, p1, k, _, _, rfl, hp5, hp1, k1, k4, fun i hi => by have := pos i hi; have := (wk i).1; omega, fun H15 p6 s15 hp6 => ?_⟩
    have t15 := t13.trans (s14.trans s15)
    refine ⟨_, rfl, new_purse R.ins (t15 _ _ ha) k1 k4 am0 fun p7 H16 s16 hp7 => ?_⟩
    have hp6 := hp6.same s16
    obtain ⟨dx6, u6, q6, q6'⟩ := id hp6
    obtain ⟨dx7, u7, q7, q7'⟩ := id hp7
    refine ⟨p6, dx6, _, p7, dx7, _, rfl, rfl, q6, q7, p6, p7, k, _, _, rfl, hp6, hp7, k1, k4, fun i hi => by have := (wk i).2; omega, fun H17 p8 s17 hp8 => ?_⟩
    obtain ⟨dx8, u8, q8, q8'⟩ := id hp8
    refine ⟨p8, cPurse, dx8, _, _, rfl, q8, R.ins.cl, R.na, rfl, ?_⟩
    rw [show (fun i => (wayT L (runW rs)).n i + (am i + (wayT L (runW rs)).c i) - am i) = fun i => (wayT L (runW rs)).n i + (wayT L (runW rs)).c i from funext fun i => by omega] at q8'
    have s137 := s14.trans (s15.trans (s16.trans s17))
    refine ⟨_, _, dp_tup (s137 _ _ hpr), dp_tup q8', tup_shaped _, tup_shaped _, ?_⟩
    rw [eqv_selfT]
    exact kk H17 (t13.trans s137)
  · refine ⟨_, rfl, _, rfl, _, rfl, d, a, w, k, L, rs, am, rfl, B, ok, k1, k4, ha, W, hrs, rl, am0, fun j H1 hj c nc s1 => ?_, fun H' p c _ _ => absurd c cv⟩
    refine ⟨_, rfl, _, rfl, _, rfl, d, a, w, k, L, runW rs, am, rfl, B.same s1, ok, k4, s1 _ _ ha, W.same s1, hsD, sl, am0, fun j' H2 hj' c' nc' s2 => ?_, fun H' c _ => absurd c cv⟩
    obtain rfl := stuck_at c nc c' nc'
    refine ⟨_, _, rfl, ?_⟩
    have t2 := s1.trans s2
    refine ⟨_, rfl, _, rfl, d, w, k, L, runW rs, rfl, B.same t2, ok, k4, W.same t2, hsD, fun H3 nA s3 hN => ?_⟩
    have t3 := t2.trans s3
    refine ⟨_, rfl, _, rfl, d, w, k, L, runW rs, rfl, B.same t3, ok, k4, W.same t3, hsD, fun H4 cA s4 hC => ?_⟩
    have t4 := t3.trans s4
    have hN4 := s4 _ _ hN
    refine ⟨_, _, rfl, ?_⟩
    clear hN s3 s4 s2 s1 t2 t3
    refine ⟨_, rfl, new_purse R.ins (t4 _ _ ha) k1 k4 am0 fun p2 H5 s5 hp2 => ?_⟩
    obtain ⟨dx2, t2, q2, q2'⟩ := id hp2
    refine ⟨p2, dx2, _, rfl, q2, rfl, _, rfl, new_purse R.ins (s5 _ _ hN4) k1 k4 (fun i _ => (wk i).1) fun p3 H6 s6 hp3 => ?_⟩
    refine ⟨p2, p3, k, am, _, rfl, hp2.same s6, hp3, k4, fun H7 s7 => ?_⟩
    have z : ((List.range k).all fun i => decide ((wayT L (runW rs)).n i ≤ am i)) = false := by
      cases e : (List.range k).all fun i => decide ((wayT L (runW rs)).n i ≤ am i) with
      | false => rfl
      | true => exact absurd (cov_all.mp e) cv
    rw [z]
    refine ⟨_, _, rfl, .bl false, rfl, by decide, by decide +kernel, _, rfl, rfl, ?_⟩
    rw [show decide (V.int (j : Int) = V.non) = false from decide_eq_false fun e => nomatch e]
    refine ⟨_, _, rfl, .bl _, rfl, by decide, by decide +kernel, ?_⟩
    refine ⟨rfl, _, rfl, iteNP rfl ⟨_, rfl, rfl, _, rfl, iteNN (fun e => nomatch e) ?_⟩⟩
    refine ⟨_, rfl, _, rfl, rfl, ?_⟩
    rw [decide_eq_true rfl]
    exact kk H7 (t4.trans (s5.trans (s6.trans s7)))
end
end Sm

set_option Elab.async false
set_option linter.all false
set_option maxRecDepth 100000
set_option maxHeartbeats 4000000
namespace Sm
open PySem PySem.Spec PyProof.Rows L2
/-! ### comprehensions of draws over a range: each item is told by something that outlives all but its own tuples -/
def KeepT (H H' : Hp) : Prop := ∀ b xs, H b = some (.tup xs) → H' b = some (.tup xs)
/-- a row of values and what they are -/
def RowOf {α : Type} (rel : Hp → V → α → Prop) (H : Hp) (vs : List V) (as : List α) : Prop := vs.length = as.length ∧ ∀ (i : Nat) (v : V), vs[i]? = some v → ∃ a, as[i]? = some a ∧ rel H v a
theorem RowOf.keep {α : Type} {rel : Hp → V → α → Prop} (st : ∀ H H' v a, KeepT H H' → rel H v a → rel H' v a) {H H' : Hp} {vs : List V} {as : List α} (r : RowOf rel H vs as) (k : KeepT H H') : RowOf rel H' vs as :=
  ⟨r.1, fun i v e => by obtain ⟨a, h1, h2⟩ := r.2 i v e; exact ⟨a, h1, st _ _ _ _ k h2⟩⟩
theorem RowOf.snoc {α : Type} {rel : Hp → V → α → Prop} {H : Hp} {vs : List V} {as : List α} {v : V} {a : α} (r : RowOf rel H vs as) (h : rel H v a) : RowOf rel H (vs ++ [v]) (as ++ [a]) := by
  refine ⟨by rw [List.length_append, List.length_append, r.1]; rfl, fun i z e => ?_⟩
  rcases Nat.lt_or_ge i vs.length with c | c
  · rw [List.getElem?_append_left c] at e
    obtain ⟨b, h1, h2⟩ := r.2 i z e
    exact ⟨b, by rw [List.getElem?_append_left (by rw [← r.1]; exact c)]; exact h1, h2⟩
  · rw [List.getElem?_append_right c] at e
    have hi : i - vs.length = 0 := by
      rcases Nat.eq_zero_or_pos (i - vs.length) with q | q
      · exact q
      · rw [List.getElem?_eq_none (by show [v].length ≤ _; exact q)] at e
        cases e
    rw [hi] at e
    have e : z = v := (Option.some.inj e).symm
    subst e
    refine ⟨a, ?_, h⟩
    rw [List.getElem?_append_right (by rw [← r.1]; exact c), ← r.1, hi]
    rfl
theorem lc_rdA {α : Type} (rel : Hp → V → α → Prop) (st : ∀ H H' v a, KeepT H H' → rel H v a → rel H' v a) {lo : Int} {n : Nat} {g : TG} {te : TE} {vs : List Nat} {σ : L2.St} {H : Hp} {D p l : Addr} {n0 c : Int} {Qd : Hp → Prop} (G : α → Prop) (D0 : Deck H p l n0) (nD : H D = none) (ln : n ≤ 20000) (c0 : 0 ≤ c)
    (hs : ∀ i H' n', i < n → Fr p l H H' → Deck H' p l n' → n0 ≤ n' → n' ≤ n0 + c * (i : Int) → ∀ R : VK, (∀ H4 v a n4, Fr p l H' H4 → Deck H4 p l n4 → n' ≤ n4 → n4 ≤ n' + c → G a → rel H4 v a → R v H4) → g (.int (lo + i)) (wipe σ vs) H' fun σ2 H2 => wipe σ2 vs = wipe σ vs ∧ te σ2 H2 R)
    (mono : ∀ x H' (A B : L2.St → Hp → Prop), (∀ σ2 H2, A σ2 H2 → B σ2 H2) → g x (wipe σ vs) H' A → g x (wipe σ vs) H' B)
    (hd : ∀ H' (n' : Int) (us : List V) (as : List α), Fr p l H H' → Deck H' p l n' → n0 ≤ n' → n' ≤ n0 + c * (n : Int) → as.length = n → (∀ a ∈ as, G a) → RowOf rel H' us as → H' D = some (.lst us) → Qd H') :
    ∃ W : Nat → Nat → Hp → Prop, (∃ m, W 0 m (upd H D (.lst []))) ∧ ∀ i m H, W i m H → ((Itr lo n).stop i H ∧ Qd H) ∨ ((Itr lo n).go i H ∧ ∃ Nx : Hp → Prop, (∀ H', Nx H' → ∃ m', m' < m ∧ W (i + 1) m' H') ∧ ∀ x H', (Itr lo n).yld i H x H' → g x (wipe σ vs) H' fun σ2 H2 => wipe σ2 vs = wipe σ vs ∧ tYes σ2 H2 fun b H3 =>
        if b = true then te σ2 H3 fun y H4 => ∃ acc, H4 D = some (.lst acc) ∧ acc.length < sizeLine ∧ Nx (upd H4 D (.lst (acc ++ [y]))) else Nx H3) := by
  obtain ⟨Dp, Dl⟩ := D0.lne nD
  refine lc_range (fun i H' => ∃ (n' : Int) (us : List V) (as : List α), Fr p l H H' ∧ Deck H' p l n' ∧ n0 ≤ n' ∧ n' ≤ n0 + c * (i : Int) ∧ as.length = i ∧ (∀ a ∈ as, G a) ∧ RowOf rel H' us as ∧ H' D = some (.lst us)) ?_ ?_ ?_
  · exact ⟨n0, [], [], Same.fr (same_upd nD), D0.same (same_upd nD), by omega, by simp, rfl, fun x hx => (nomatch hx), ⟨rfl, fun i v e => by simp at e⟩, upd_same⟩
  · rintro i H' il ⟨n', us, as, f, D1, a0, a1, xl, xg, row, hD⟩
    refine mono _ H' _ _ ?_ (hs i H' n' il f D1 a0 a1 (fun y H4 => ∃ acc, H4 D = some (.lst acc) ∧ acc.length < sizeLine ∧ ∃ (n' : Int) (us : List V) (as : List α), Fr p l H (upd H4 D (.lst (acc ++ [y]))) ∧ Deck (upd H4 D (.lst (acc ++ [y]))) p l n' ∧ n0 ≤ n' ∧ n' ≤ n0 + c * ((i + 1 : Nat) : Int) ∧ as.length = i + 1 ∧ (∀ a ∈ as, G a) ∧ RowOf rel (upd H4 D (.lst (acc ++ [y]))) us as ∧ upd H4 D (.lst (acc ++ [y])) D = some (.lst us)) fun H4 v a n4 f4 D4 b0 b1 ga ra => ?_)
    · rintro σ2 H2 ⟨e, h⟩
      refine ⟨e, ?_⟩
      unfold tYes
      exact iteT h
    · have hD4 := f4 _ _ Dp Dl hD
      have kt : KeepT H4 (upd H4 D (.lst (us ++ [v]))) := fun b xs e => by
        rw [upd_ne (ne_of e hD4 (by intro q; cases q))]
        exact e
      refine ⟨us, hD4, ?_, n4, us ++ [v], as ++ [a], ?_, ⟨by rw [upd_ne Dp.symm]; exact D4.hp, ?_⟩, by omega, ?_, ?_, ?_, ?_, upd_same⟩
      · rw [row.1, xl]
        exact Nat.lt_of_le_of_lt (show i ≤ 20000 by omega) (by decide)
      · intro b o h1 h2 hb
        rw [upd_ne (ne_of_none hb nD)]
        exact f4 b o h1 h2 (f b o h1 h2 hb)
      · obtain ⟨cells, q1, q2⟩ := D4.hl
        exact ⟨cells, by rw [upd_ne Dl.symm]; exact q1, q2⟩
      · have : c * ((i + 1 : Nat) : Int) = c * (i : Int) + c := by rw [Int.natCast_add, Int.mul_add, show ((1 : Nat) : Int) = 1 from rfl, Int.mul_one]
        omega
      · rw [List.length_append, List.length_singleton, xl]
      · intro z hz
        rcases List.mem_append.mp hz with hz | hz
        · exact xg z hz
        · rw [List.mem_singleton.mp hz]
          exact ga
      · exact (row.keep st (H' := upd H4 D (.lst (us ++ [v]))) fun b xs e => kt b xs (f4.tup D1 e)).snoc (st _ _ _ _ kt ra)
  · rintro H' ⟨n', us, as, f, D1, a0, a1, xl, xg, row, hD⟩
    exact hd H' n' us as f D1 a0 a1 xl xg row hD
/-- ints -/
def relI : Hp → V → Int → Prop := fun _ v a => v = .int a
theorem relI_keep : ∀ H H' v a, KeepT H H' → relI H v a → relI H' v a := fun _ _ _ _ _ h => h
theorem RowOf.ints {H : Hp} : ∀ {vs : List V} {as : List Int}, RowOf relI H vs as → vs = as.map V.int
  | [], [], _ => rfl
  | [], _ :: _, h => nomatch h.1
  | _ :: _, [], h => nomatch h.1
  | v :: vs, a :: as, h => by
    obtain ⟨b, h1, h2⟩ := h.2 0 v rfl
    have h1 : a = b := Option.some.inj h1
    have h2 : v = .int b := h2
    have r : RowOf relI H vs as := ⟨Nat.succ.inj h.1, fun i z e => h.2 (i + 1) z e⟩
    rw [h2, ← h1, r.ints]
    rfl
end Sm

set_option Elab.async false
set_option linter.all false
set_option maxRecDepth 100000
set_option maxHeartbeats 16000000
namespace Sm
open PySem PySem.Spec PyProof.Rows L2
open C8 (pss_cut tCut)
def sp_law (K : PySem.W.Frag) : Sp := fun vs H Q _ => ∃ (a : Addr) (ns : List Int), vs = [.ref a] ∧ SqL K H a (ns.map V.int) ∧ ns.length ≤ 63 ∧ ∀ H', Q (.bl true) H'
def relR : Hp → V → Nat × Int → Prop := fun H v r => ∃ q, v = .ref q ∧ RunAt H q r
theorem relR_keep : ∀ H H' v a, KeepT H H' → relR H v a → relR H' v a := fun _ _ _ _ k h => by
  obtain ⟨q, e, h⟩ := h
  exact ⟨q, e, k _ _ h⟩
theorem runs_way {H : Hp} : ∀ {vs : List V} {rs : List (Nat × Int)}, RowOf relR H vs rs → ∃ qs : List Addr, vs = qs.map V.ref ∧ StsAt H qs (runW rs)
  | [], [], _ => ⟨[], rfl, rfl, fun i q e => by simp at e⟩
  | [], _ :: _, h => nomatch h.1
  | _ :: _, [], h => nomatch h.1
  | v :: vs, r :: rs, h => by
    obtain ⟨b, h1, q, h2, h3⟩ := h.2 0 v rfl
    have h1 : r = b := Option.some.inj h1
    subst h1
    obtain ⟨qs, e, z⟩ := runs_way (H := H) (vs := vs) (rs := rs) ⟨Nat.succ.inj h.1, fun i z e => h.2 (i + 1) z e⟩
    refine ⟨q :: qs, by rw [h2, e]; rfl, by show _ + 1 = _ + 1; rw [z.1]; rfl, fun i q' e' => ?_⟩
    cases i with
    | zero =>
      have e' : q = q' := Option.some.inj e'
      subst e'
      exact ⟨.run r.1 r.2, rfl, h3⟩
    | succ i => exact z.2 i q' e'
theorem vec_of (xs : List Int) : xs = vec xs.length fun i => xs.getD i 0 := by
  unfold vec
  refine (List.ext_getElem (by rw [List.length_map, List.length_range]) fun i h1 h2 => ?_).symm
  rw [List.getElem_map, List.getElem_range, List.getD_eq_getElem?_getD, List.getElem?_eq_getElem h2]
  rfl
theorem pick3 {a b c r : Int} (h0 : 0 ≤ r) (h1 : r < 3) : ∃ x, [V.int a, V.int b, V.int c][r.toNat]? = some (V.int x) ∧ (x = a ∨ x = b ∨ x = c) := by
  obtain h | h | h : r = 0 ∨ r = 1 ∨ r = 2 := by omega
  · subst h; exact ⟨a, rfl, .inl rfl⟩
  · subst h; exact ⟨b, rfl, .inr (.inl rfl)⟩
  · subst h; exact ⟨c, rfl, .inr (.inr rfl)⟩
section
variable {P : Program} {w : World} {K : PySem.W.Frag} {mg : Str → Option Value} {base : Heap}
abbrev s_law : Stmt := topS 34
abbrev N_law : List Str := ["_law_script", "_law_deck_here", "_law_turn", "_law_board_here", "_law_attempt", "_law_begun", "_law_way", "_law_step", "_law_kind"]
theorem sc_law : FnScope N_law ["_law_script"] (defScope s_law) := ⟨rfl, rfl, rfl, by decide +kernel, rfl, by decide +kernel, by decide +kernel⟩
theorem ok_lawG {f : Addr} {fd : FuncData} (T : Txt mg) (F : Fun K "law" "law" s_law f fd) {f_l_right : Addr} {fd_l_right : FuncData} (G_l_right : FnG P w K mg base 8 f_l_right fd_l_right ["_law_board_here", "_law_begun", "_law_way"] (sp_l_right K)) (m_l_right : mg "_law_right" = some (.ref f_l_right)) (k_l_right : PySem.W.keepIn K (.ref f_l_right) = true) (b_l_right : L2.Binds K fd_l_right ["_law_board_here", "_law_begun", "_law_way"] []) (C_l_draw : Cal P w K mg base "_law_draw" ["_law_deck_here", "_law_many"] 1 (sp_l_draw K)) (C_l_board : Cal P w K mg base "_law_board" ["_law_deck_here", "_law_kinds", "_law_many", "_law_upto"] 2 (sp_l_board K)) (C_l_deck : Cal P w K mg base "_law_deck" ["_law_script"] 1 (sp_l_deck K)) : FnG P w K mg base 9 f fd ["_law_script"] (sp_law K) := by
  obtain ⟨f_l_draw, fd_l_draw, G_l_draw, m_l_draw, k_l_draw, b_l_draw⟩ := C_l_draw
  obtain ⟨f_l_board, fd_l_board, G_l_board, m_l_board, k_l_board, b_l_board⟩ := C_l_board
  obtain ⟨f_l_deck, fd_l_deck, G_l_deck, m_l_deck, k_l_deck, b_l_deck⟩ := C_l_deck
  refine FnG.body F sc_law (fun vs H Q E h => ?_) (fun cdv A outer s H vs Q E gu hr h => ?_)
  · obtain ⟨a, ns, rfl, _⟩ := h
    rfl
  obtain ⟨a, ns, rfl, hS, hlen, kk⟩ := h
  refine ⟨_, (pss_cons (ps_set (i := 1) sc_law.nd rfl (Or.inr rfl) (pe_call G_l_deck (hr.mono (by decide)) (by rfl) m_l_deck k_l_deck b_l_deck .nil pass0 (pa_cons (pv 0) pa_nil)))
    (pss_cons (ps_for PassesOwn.never rfl (pi_range1 (by rfl) T.n_range (pa_cons pe_int pa_nil)) (pg_name (i := 2) sc_law.nd rfl (Or.inl rfl))
      (pss_cons (ps_set (i := 3) sc_law.nd rfl (Or.inr rfl) (pe_call G_l_board (hr.mono (by decide)) (by rfl) m_l_board k_l_board b_l_board .nil pass0 (pa_cons (pv 1) (pa_cons (pe_op op_add pe_int (pe_op op_modN (pe_callTy call_int1 (by rfl) T.n_int (by decide +kernel) (pa_cons (pv 2) pa_nil)) pe_int)) (pa_cons (pe_op op_add pe_int (pe_call G_l_draw (hr.mono (by decide)) (by rfl) m_l_draw k_l_draw b_l_draw .nil pass0 (pa_cons (pv 1) (pa_cons pe_int pa_nil)))) (pa_cons pe_int pa_nil))))))
    (pss_one (ps_for PassesOwn.never rfl (pi_range1 (by rfl) T.n_range (pa_cons pe_int pa_nil)) (pg_name (i := 4) sc_law.nd rfl (Or.inl rfl))
      (pss_cons (ps_set (i := 5) sc_law.nd rfl (Or.inl rfl) (pe_callTy call_tuple_of (by rfl) T.n_tuple (by decide +kernel) (pa_cons (pe_lc (own := [("_law_kind", 8)]) (g := gName 8) (tt := tYes) rfl sc_law.nd (pi_range1 (by rfl) T.n_range (pa_cons (pe_ix ix_tup (pv 3) pe_int (fun _ _ => rfl)) pa_nil)) (blkOk_by (own := [("_law_kind", 8)]) (N := N_law) (sc := defScope s_law) (by decide +kernel)) (fun _ _ _ _ _ => pg_name (i := 8) sc_law.nd rfl (Or.inl rfl)) (fun _ _ _ _ _ => pts_nil) (fun _ _ _ _ _ => (pe_call G_l_draw (hr.mono (by decide)) (by rfl) m_l_draw k_l_draw b_l_draw .nil pass0 (pa_cons (pv 1) (pa_cons (pe_ix (show IxR _ (rIxL K) from ix_list) (pe_lst (pa_cons pe_int (pa_cons pe_int (pa_cons pe_int pa_nil)))) (pe_call G_l_draw (hr.mono (by decide)) (by rfl) m_l_draw k_l_draw b_l_draw .nil pass0 (pa_cons (pv 1) (pa_cons pe_int pa_nil))) (fun _ _ => rfl)) pa_nil))))) pa_nil)))
    (pss_cons (ps_setLc (i := 6) (own := [("_law_step", 7)]) (g := gName 7) (tt := tYes) rfl sc_law.nd rfl rfl (sw_true rfl rfl rfl (by decide +kernel)) (pi_range1 (by rfl) T.n_range (pa_cons (pe_call G_l_draw (hr.mono (by decide)) (by rfl) m_l_draw k_l_draw b_l_draw .nil pass0 (pa_cons (pv 1) (pa_cons pe_int pa_nil))) pa_nil)) (blkOk_by (own := [("_law_step", 7)]) (N := N_law) (sc := defScope s_law) (by decide +kernel)) (fun _ _ _ _ _ => pg_name (i := 7) sc_law.nd rfl (Or.inl rfl)) (fun _ _ _ _ _ => pts_nil) (fun _ _ _ _ _ => (pe_tup (pa_cons (pe_call G_l_draw (hr.mono (by decide)) (by rfl) m_l_draw k_l_draw b_l_draw .nil pass0 (pa_cons (pv 1) (pa_cons (pe_callB (show CallR _ _ (fun xs H Q => ∃ p ys, xs = [.ref p] ∧ (SqL K H p ys ∨ SqT K H p ys) ∧ Q (.int ys.length) H) from call_len_seq) (by rfl) T.n_len (by decide +kernel) (pa_cons (pe_ix (show IxR _ (rIxT K) from ix_tup) (pv 3) pe_int (fun _ _ => rfl)) pa_nil)) pa_nil))) (pa_cons (pe_op op_add pe_int (pe_call G_l_draw (hr.mono (by decide)) (by rfl) m_l_draw k_l_draw b_l_draw .nil pass0 (pa_cons (pv 1) (pa_cons pe_int pa_nil)))) pa_nil)))))
    (pss_one (ps_if (pt_not (pt_val (pe_callG G_l_right gu (hr.mono (by decide)) (by rfl) m_l_right k_l_right b_l_right (pa_cons (pv 3) (pa_cons (pv 5) (pa_cons (pe_callTy call_tuple_of (by rfl) T.n_tuple (by decide +kernel) (pa_cons (pv 6) pa_nil)) pa_nil)))))) (pss_one (ps_ret pe_bl)) pss_nil))))))))
    (pss_one (ps_ret pe_bl)))), ?_⟩
  refine ⟨_, rfl, a, ns, rfl, hS, hlen, fun H1 p l s1 D1 => ?_⟩
  refine ⟨8, rfl, (by decide), (by decide), for_range (lo := 0) (n := 8) (fun i σ H' => ∃ (n : Int) (v2 v3 v4 v5 v6 : Option V), σ = [some (.ref a), some (.ref p), v2, v3, v4, v5, v6, none, none] ∧ Deck H' p l n ∧ 0 ≤ n ∧ n ≤ 1000 * (i : Int))
    ⟨0, none, none, none, none, none, rfl, D1, by omega, by omega⟩ ?_ ?_⟩
  · rintro i σ H2 hi ⟨n, v2, v3, v4, v5, v6, rfl, D2, n0, n1⟩
    have fm3 : (0 + (i : Int)).fmod 3 = (0 + (i : Int)) % 3 := fmod_pos (by decide)
    obtain ⟨k, hk⟩ : ∃ k : Nat, 2 + (0 + (i : Int)).fmod 3 = (k : Int) := ⟨(2 + (0 + (i : Int)).fmod 3).toNat, by rw [fm3]; omega⟩
    have k2 : 2 ≤ k := by rw [fm3] at hk; omega
    have k4 : k ≤ 4 := by rw [fm3] at hk; omega
    refine ⟨_, rfl, _, rfl, .inl ⟨_, rfl, _, _, rfl, rfl, (show (3 : Int) ≠ 0 by decide), _, _, rfl, rfl, ?_⟩⟩
    refine ⟨_, rfl, p, l, n, 6, rfl, D2, n0, by omega, by omega, by omega, fun r H3 r0 r1 f3 D3 => ?_⟩
    refine ⟨_, _, rfl, rfl, p, l, n + 1, k, 3 + r, 9, (by rw [← hk]; rfl), D3, by omega, by omega, k2, k4, by omega, by omega, by omega, by omega, fun H4 d L n4 f4 D4 m0 m1 B ok lm l0 => ?_⟩
    have l0 := l0 (by omega)
    refine ⟨4, rfl, (by decide), (by decide), for_range (lo := 0) (n := 4) (fun j σ H' => ∃ (n' : Int) (v4 v5 v6 : Option V), σ = [some (.ref a), some (.ref p), some (.int (0 + (i : Int))), some (.ref d), v4, v5, v6, none, none] ∧ Deck H' p l n' ∧ n4 ≤ n' ∧ n' ≤ n4 + 50 * (j : Int) ∧ BoardAt H' d k L)
      ⟨n4, v4, v5, v6, rfl, D4, by omega, by omega, B⟩ ?_ ?_⟩
    · rintro j σ H5 hj ⟨n5, v4, v5, v6, rfl, D5, a0, a1, B5⟩
      obtain ⟨t, qs, hd, ht, hL⟩ := id B5
      refine ⟨_, rfl, _, _, _, _, rfl, rfl, SqT.of hd, atI_nat (j := 0) rfl, (k : Int), rfl, by omega, by omega, fun U nU => ?_⟩
      rw [show ((k : Int)).toNat = k by omega]
      refine lc_rdA relI relI_keep (c := 2) (fun x => 0 ≤ x) D5 nU (by omega) (by omega) ?_ gName_mono ?_
      · intro e H6 n6 he f6 D6 b0 b1 R' hR
        refine ⟨rfl, _, rfl, (by show 3 ≤ sizeLine; decide), fun z nz => ?_⟩
        have sz := same_upd (o := .lst [.int 4, .int 20, .int 60]) nz
        obtain ⟨zp, zl⟩ := D6.lne nz
        refine ⟨_, rfl, p, l, n6, 3, rfl, D6.same sz, by omega, by omega, by omega, by omega, fun r1 H7 c0 c1 f7 D7 => ?_⟩
        obtain ⟨m, hm, hm3⟩ := pick3 (a := 4) (b := 20) (c := 60) c0 c1
        refine ⟨_, _, _, _, rfl, rfl, SqL.of (f7 z _ zp zl upd_same), at_of (j := r1.toNat) (by omega) hm, ?_⟩
        exact ⟨p, l, n6 + 1, m, rfl, D7, by omega, by omega, by omega, by omega, fun r2 H8 d0 d1 f8 D8 => hR H8 _ r2 _ ((Same.fr sz).trans (f7.trans f8)) D8 (by omega) (by omega) d0 rfl⟩
      intro H6 n6 us xs f6 D6 b0 b1 xl xg row hU
      rw [row.ints] at hU
      refine ⟨_, _, rfl, .inl ⟨SqL.of hU, fun q nq => ?_⟩⟩
      have sq := same_upd (o := .tup (xs.map V.int)) nq
      have hq : upd H6 q (.tup (xs.map V.int)) q = some (.tup (xs.map V.int)) := upd_same
      have f7 : Fr p l H5 (upd H6 q (.tup (xs.map V.int))) := f6.trans (Same.fr sq)
      have D7 := D6.same sq
      generalize upd H6 q (.tup (xs.map V.int)) = H7 at hq f7 D7 ⊢
      rw [vec_of xs, xl] at hq
      have am0 : ∀ i, i < k → 0 ≤ (fun i => xs.getD i 0) i := fun i hi => by
        show 0 ≤ xs.getD i 0
        rw [List.getD_eq_getElem?_getD, List.getElem?_eq_getElem (by omega)]
        exact xg _ (List.getElem_mem _)
      generalize (fun i => xs.getD i 0) = am at hq am0
      have B7 := B5.fr f7 D5
      clear sq nq hU row xg f6 D6 nU hd ht hL
      -- the way
      refine ⟨_, rfl, p, l, n6, 6, rfl, D7, by omega, by omega, by omega, by omega, fun r3 H8 d0 d1 f8 D8 => ?_⟩
      have hq8 := f8.tup D7 hq
      have B8 := B7.fr f8 D7
      obtain ⟨t, qs, hd, ht, hL⟩ := id B8
      have lq : (qs.map V.ref).length = L.length := by rw [List.length_map, hL.1]
      refine ⟨_, rfl, by omega, by omega, fun U nU => ?_⟩
      refine lc_rdA relR relR_keep (c := 2) (fun r => r.1 < L.length ∧ 1 ≤ r.2 ∧ r.2 ≤ 3) D8 nU (by omega) (by omega) ?_ gName_mono ?_
      · intro e H9 n9 he f9 D9 b0 b1 R' hR
        refine ⟨rfl, _, rfl, _, rfl, _, _, _, _, rfl, rfl, SqT.of (f9.tup D8 hd), atI_nat (j := 1) rfl, t, _, rfl, .inr (SqT.of (f9.tup D8 ht)), p, l, n9, _, rfl, D9, by omega, by omega, by rw [lq]; omega, by rw [lq]; omega, fun r4 H10 e0 e1 f10 D10 => ?_⟩
        rw [lq] at e1
        refine ⟨_, rfl, p, l, n9 + 1, 3, rfl, D10, by omega, by omega, by omega, by omega, fun r5 H11 g0 g1 f11 D11 => ?_⟩
        refine ⟨_, _, rfl, rfl, (by show 2 ≤ sizeLine; decide), fun T' nT => ?_⟩
        have sT := same_upd (o := .tup [.int r4, .int (1 + r5)]) nT
        refine hR _ _ (r4.toNat, 1 + r5) _ ((f10.trans f11).trans (Same.fr sT)) (D11.same sT) (by omega) (by omega) ⟨by show r4.toNat < L.length; omega, by show 1 ≤ 1 + r5; omega, by show 1 + r5 ≤ 3; omega⟩ ⟨T', rfl, ?_⟩
        show upd H11 T' _ T' = some (.tup [.int (r4.toNat : Int), .int (1 + r5)])
        rw [show ((r4.toNat : Nat) : Int) = r4 by omega]
        exact upd_same
      intro H9 n9 us rs f9 D9 b0 b1 rl rg row hU
      obtain ⟨ws, rfl, hW⟩ := runs_way row
      refine ⟨_, rfl, _, rfl, _, rfl, U, _, rfl, .inl ⟨SqL.of hU, fun w nw => ?_⟩⟩
      have sw := same_upd (o := .tup (ws.map V.ref)) nw
      have W : WayAt (upd H9 w (.tup (ws.map V.ref))) w (runW rs) := ⟨ws, upd_same, hW.mono fun b xs e => sw _ _ e⟩
      have B9 := (B8.fr f9 D8).same sw
      have hq9 := sw _ _ (f9.tup D8 hq8)
      have D10 := D9.same sw
      generalize upd H9 w (.tup (ws.map V.ref)) = H10 at W B9 hq9 D10 ⊢
      refine ⟨d, q, w, k, L, rs, am, rfl, B9, ok, by omega, k4, hq9, W, rg, by omega, am0, fun H11 s11 => ?_⟩
      exact ⟨_, rfl, iteF ⟨_, _, _, _, rfl, D10.same s11, by omega, by omega, B9.same s11⟩⟩
    · rintro σ H5 ⟨n5, v4, v5, v6, rfl, D5, a0, a1, B5⟩
      exact ⟨n5, _, _, _, _, _, rfl, D5, by omega, by omega⟩
  · rintro σ H2 ⟨n, v2, v3, v4, v5, v6, rfl, D2, n0, n1⟩
    exact kk H2
end
end Sm

set_option Elab.async false
set_option linter.all false
set_option maxRecDepth 100000
set_option maxHeartbeats 16000000
namespace Sm
open PySem PySem.Spec PyProof.Rows L2
theorem all_mk {l : PySem.W.OpenLaw} {w : World} {K : PySem.W.Frag} {h : Heap} {mg : Str → Option Value} {fa : Addr} (X : K.In h) (G : h.Ns mainGlobals mg) (hfa : mg "law" = some (.ref fa))
    {F_is_whole : Addr} {od_is_whole an_is_whole : Option Addr} {sl_is_whole : Array (Option Value)} {oc_is_whole kV_is_whole dc_is_whole pm_is_whole cd_is_whole ct_is_whole : Value} (a_is_whole : PySem.W.nsIn K mainGlobals "is_whole" = some (some (.ref F_is_whole))) (l_is_whole : K.lookup F_is_whole = some ⟨oc_is_whole, od_is_whole, .func (PySem.W.fnOf "is_whole" "is_whole" (defArgs s_is_whole) (defBody s_is_whole) (defScope s_is_whole) .none kV_is_whole dc_is_whole pm_is_whole an_is_whole cd_is_whole ct_is_whole), sl_is_whole⟩) (c_is_whole : PySem.W.codeIn K cd_is_whole "is_whole" = true) (k_is_whole : PySem.W.keepIn K (.ref F_is_whole) = true)
    {F_is_within : Addr} {od_is_within an_is_within : Option Addr} {sl_is_within : Array (Option Value)} {oc_is_within kV_is_within dc_is_within pm_is_within cd_is_within ct_is_within : Value} (a_is_within : PySem.W.nsIn K mainGlobals "is_within" = some (some (.ref F_is_within))) (l_is_within : K.lookup F_is_within = some ⟨oc_is_within, od_is_within, .func (PySem.W.fnOf "is_within" "is_within" (defArgs s_is_within) (defBody s_is_within) (defScope s_is_within) .none kV_is_within dc_is_within pm_is_within an_is_within cd_is_within ct_is_within), sl_is_within⟩) (c_is_within : PySem.W.codeIn K cd_is_within "is_within" = true) (k_is_within : PySem.W.keepIn K (.ref F_is_within) = true)
    {F_is_amount : Addr} {od_is_amount an_is_amount : Option Addr} {sl_is_amount : Array (Option Value)} {oc_is_amount kV_is_amount dc_is_amount pm_is_amount cd_is_amount ct_is_amount : Value} (a_is_amount : PySem.W.nsIn K mainGlobals "is_amount" = some (some (.ref F_is_amount))) (l_is_amount : K.lookup F_is_amount = some ⟨oc_is_amount, od_is_amount, .func (PySem.W.fnOf "is_amount" "is_amount" (defArgs s_is_amount) (defBody s_is_amount) (defScope s_is_amount) .none kV_is_amount dc_is_amount pm_is_amount an_is_amount cd_is_amount ct_is_amount), sl_is_amount⟩) (c_is_amount : PySem.W.codeIn K cd_is_amount "is_amount" = true) (k_is_amount : PySem.W.keepIn K (.ref F_is_amount) = true)
    {F_is_offer : Addr} {od_is_offer an_is_offer : Option Addr} {sl_is_offer : Array (Option Value)} {oc_is_offer kV_is_offer dc_is_offer pm_is_offer cd_is_offer ct_is_offer : Value} (a_is_offer : PySem.W.nsIn K mainGlobals "is_offer" = some (some (.ref F_is_offer))) (l_is_offer : K.lookup F_is_offer = some ⟨oc_is_offer, od_is_offer, .func (PySem.W.fnOf "is_offer" "is_offer" (defArgs s_is_offer) (defBody s_is_offer) (defScope s_is_offer) .none kV_is_offer dc_is_offer pm_is_offer an_is_offer cd_is_offer ct_is_offer), sl_is_offer⟩) (c_is_offer : PySem.W.codeIn K cd_is_offer "is_offer" = true) (k_is_offer : PySem.W.keepIn K (.ref F_is_offer) = true)
    {F_check_kinds : Addr} {od_check_kinds an_check_kinds : Option Addr} {sl_check_kinds : Array (Option Value)} {oc_check_kinds kV_check_kinds dc_check_kinds pm_check_kinds cd_check_kinds ct_check_kinds : Value} (a_check_kinds : PySem.W.nsIn K mainGlobals "check_kinds" = some (some (.ref F_check_kinds))) (l_check_kinds : K.lookup F_check_kinds = some ⟨oc_check_kinds, od_check_kinds, .func (PySem.W.fnOf "check_kinds" "check_kinds" (defArgs s_check_kinds) (defBody s_check_kinds) (defScope s_check_kinds) .none kV_check_kinds dc_check_kinds pm_check_kinds an_check_kinds cd_check_kinds ct_check_kinds), sl_check_kinds⟩) (c_check_kinds : PySem.W.codeIn K cd_check_kinds "check_kinds" = true) (k_check_kinds : PySem.W.keepIn K (.ref F_check_kinds) = true)
    {F_walk : Addr} {od_walk an_walk : Option Addr} {sl_walk : Array (Option Value)} {oc_walk kV_walk dc_walk pm_walk cd_walk ct_walk : Value} (a_walk : PySem.W.nsIn K mainGlobals "walk" = some (some (.ref F_walk))) (l_walk : K.lookup F_walk = some ⟨oc_walk, od_walk, .func (PySem.W.fnOf "walk" "walk" (defArgs s_walk) (defBody s_walk) (defScope s_walk) .none kV_walk dc_walk pm_walk an_walk cd_walk ct_walk), sl_walk⟩) (c_walk : PySem.W.codeIn K cd_walk "walk" = true) (k_walk : PySem.W.keepIn K (.ref F_walk) = true)
    {F_need_of : Addr} {od_need_of an_need_of : Option Addr} {sl_need_of : Array (Option Value)} {oc_need_of kV_need_of dc_need_of pm_need_of cd_need_of ct_need_of : Value} (a_need_of : PySem.W.nsIn K mainGlobals "need_of" = some (some (.ref F_need_of))) (l_need_of : K.lookup F_need_of = some ⟨oc_need_of, od_need_of, .func (PySem.W.fnOf "need_of" "need_of" (defArgs s_need_of) (defBody s_need_of) (defScope s_need_of) .none kV_need_of dc_need_of pm_need_of an_need_of cd_need_of ct_need_of), sl_need_of⟩) (c_need_of : PySem.W.codeIn K cd_need_of "need_of" = true) (k_need_of : PySem.W.keepIn K (.ref F_need_of) = true)
    {F_change_of : Addr} {od_change_of an_change_of : Option Addr} {sl_change_of : Array (Option Value)} {oc_change_of kV_change_of dc_change_of pm_change_of cd_change_of ct_change_of : Value} (a_change_of : PySem.W.nsIn K mainGlobals "change_of" = some (some (.ref F_change_of))) (l_change_of : K.lookup F_change_of = some ⟨oc_change_of, od_change_of, .func (PySem.W.fnOf "change_of" "change_of" (defArgs s_change_of) (defBody s_change_of) (defScope s_change_of) .none kV_change_of dc_change_of pm_change_of an_change_of cd_change_of ct_change_of), sl_change_of⟩) (c_change_of : PySem.W.codeIn K cd_change_of "change_of" = true) (k_change_of : PySem.W.keepIn K (.ref F_change_of) = true)
    {F_way_tally : Addr} {od_way_tally an_way_tally : Option Addr} {sl_way_tally : Array (Option Value)} {oc_way_tally kV_way_tally dc_way_tally pm_way_tally cd_way_tally ct_way_tally : Value} (a_way_tally : PySem.W.nsIn K mainGlobals "way_tally" = some (some (.ref F_way_tally))) (l_way_tally : K.lookup F_way_tally = some ⟨oc_way_tally, od_way_tally, .func (PySem.W.fnOf "way_tally" "way_tally" (defArgs s_way_tally) (defBody s_way_tally) (defScope s_way_tally) .none kV_way_tally dc_way_tally pm_way_tally an_way_tally cd_way_tally ct_way_tally), sl_way_tally⟩) (c_way_tally : PySem.W.codeIn K cd_way_tally "way_tally" = true) (k_way_tally : PySem.W.keepIn K (.ref F_way_tally) = true)
    {F_step_tally : Addr} {od_step_tally an_step_tally : Option Addr} {sl_step_tally : Array (Option Value)} {oc_step_tally kV_step_tally dc_step_tally pm_step_tally cd_step_tally ct_step_tally : Value} (a_step_tally : PySem.W.nsIn K mainGlobals "step_tally" = some (some (.ref F_step_tally))) (l_step_tally : K.lookup F_step_tally = some ⟨oc_step_tally, od_step_tally, .func (PySem.W.fnOf "step_tally" "step_tally" (defArgs s_step_tally) (defBody s_step_tally) (defScope s_step_tally) .none kV_step_tally dc_step_tally pm_step_tally an_step_tally cd_step_tally ct_step_tally), sl_step_tally⟩) (c_step_tally : PySem.W.codeIn K cd_step_tally "step_tally" = true) (k_step_tally : PySem.W.keepIn K (.ref F_step_tally) = true)
    {F_run_tally : Addr} {od_run_tally an_run_tally : Option Addr} {sl_run_tally : Array (Option Value)} {oc_run_tally kV_run_tally dc_run_tally pm_run_tally cd_run_tally ct_run_tally : Value} (a_run_tally : PySem.W.nsIn K mainGlobals "run_tally" = some (some (.ref F_run_tally))) (l_run_tally : K.lookup F_run_tally = some ⟨oc_run_tally, od_run_tally, .func (PySem.W.fnOf "run_tally" "run_tally" (defArgs s_run_tally) (defBody s_run_tally) (defScope s_run_tally) .none kV_run_tally dc_run_tally pm_run_tally an_run_tally cd_run_tally ct_run_tally), sl_run_tally⟩) (c_run_tally : PySem.W.codeIn K cd_run_tally "run_tally" = true) (k_run_tally : PySem.W.keepIn K (.ref F_run_tally) = true)
    {F_l_deck : Addr} {od_l_deck an_l_deck : Option Addr} {sl_l_deck : Array (Option Value)} {oc_l_deck kV_l_deck dc_l_deck pm_l_deck cd_l_deck ct_l_deck : Value} (a_l_deck : PySem.W.nsIn K mainGlobals "_law_deck" = some (some (.ref F_l_deck))) (l_l_deck : K.lookup F_l_deck = some ⟨oc_l_deck, od_l_deck, .func (PySem.W.fnOf "_law_deck" "_law_deck" (defArgs s_l_deck) (defBody s_l_deck) (defScope s_l_deck) .none kV_l_deck dc_l_deck pm_l_deck an_l_deck cd_l_deck ct_l_deck), sl_l_deck⟩) (c_l_deck : PySem.W.codeIn K cd_l_deck "_law_deck" = true) (k_l_deck : PySem.W.keepIn K (.ref F_l_deck) = true)
    {F_l_draw : Addr} {od_l_draw an_l_draw : Option Addr} {sl_l_draw : Array (Option Value)} {oc_l_draw kV_l_draw dc_l_draw pm_l_draw cd_l_draw ct_l_draw : Value} (a_l_draw : PySem.W.nsIn K mainGlobals "_law_draw" = some (some (.ref F_l_draw))) (l_l_draw : K.lookup F_l_draw = some ⟨oc_l_draw, od_l_draw, .func (PySem.W.fnOf "_law_draw" "_law_draw" (defArgs s_l_draw) (defBody s_l_draw) (defScope s_l_draw) .none kV_l_draw dc_l_draw pm_l_draw an_l_draw cd_l_draw ct_l_draw), sl_l_draw⟩) (c_l_draw : PySem.W.codeIn K cd_l_draw "_law_draw" = true) (k_l_draw : PySem.W.keepIn K (.ref F_l_draw) = true)
    {F_l_board : Addr} {od_l_board an_l_board : Option Addr} {sl_l_board : Array (Option Value)} {oc_l_board kV_l_board dc_l_board pm_l_board cd_l_board ct_l_board : Value} (a_l_board : PySem.W.nsIn K mainGlobals "_law_board" = some (some (.ref F_l_board))) (l_l_board : K.lookup F_l_board = some ⟨oc_l_board, od_l_board, .func (PySem.W.fnOf "_law_board" "_law_board" (defArgs s_l_board) (defBody s_l_board) (defScope s_l_board) .none kV_l_board dc_l_board pm_l_board an_l_board cd_l_board ct_l_board), sl_l_board⟩) (c_l_board : PySem.W.codeIn K cd_l_board "_law_board" = true) (k_l_board : PySem.W.keepIn K (.ref F_l_board) = true)
    {F_l_gone : Addr} {od_l_gone an_l_gone : Option Addr} {sl_l_gone : Array (Option Value)} {oc_l_gone kV_l_gone dc_l_gone pm_l_gone cd_l_gone ct_l_gone : Value} (a_l_gone : PySem.W.nsIn K mainGlobals "_law_gone" = some (some (.ref F_l_gone))) (l_l_gone : K.lookup F_l_gone = some ⟨oc_l_gone, od_l_gone, .func (PySem.W.fnOf "_law_gone" "_law_gone" (defArgs s_l_gone) (defBody s_l_gone) (defScope s_l_gone) .none kV_l_gone dc_l_gone pm_l_gone an_l_gone cd_l_gone ct_l_gone), sl_l_gone⟩) (c_l_gone : PySem.W.codeIn K cd_l_gone "_law_gone" = true) (k_l_gone : PySem.W.keepIn K (.ref F_l_gone) = true)
    {F_l_went : Addr} {od_l_went an_l_went : Option Addr} {sl_l_went : Array (Option Value)} {oc_l_went kV_l_went dc_l_went pm_l_went cd_l_went ct_l_went : Value} (a_l_went : PySem.W.nsIn K mainGlobals "_law_went" = some (some (.ref F_l_went))) (l_l_went : K.lookup F_l_went = some ⟨oc_l_went, od_l_went, .func (PySem.W.fnOf "_law_went" "_law_went" (defArgs s_l_went) (defBody s_l_went) (defScope s_l_went) .none kV_l_went dc_l_went pm_l_went an_l_went cd_l_went ct_l_went), sl_l_went⟩) (c_l_went : PySem.W.codeIn K cd_l_went "_law_went" = true) (k_l_went : PySem.W.keepIn K (.ref F_l_went) = true)
    {F_l_stuck : Addr} {od_l_stuck an_l_stuck : Option Addr} {sl_l_stuck : Array (Option Value)} {oc_l_stuck kV_l_stuck dc_l_stuck pm_l_stuck cd_l_stuck ct_l_stuck : Value} (a_l_stuck : PySem.W.nsIn K mainGlobals "_law_stuck" = some (some (.ref F_l_stuck))) (l_l_stuck : K.lookup F_l_stuck = some ⟨oc_l_stuck, od_l_stuck, .func (PySem.W.fnOf "_law_stuck" "_law_stuck" (defArgs s_l_stuck) (defBody s_l_stuck) (defScope s_l_stuck) .none kV_l_stuck dc_l_stuck pm_l_stuck an_l_stuck cd_l_stuck ct_l_stuck), sl_l_stuck⟩) (c_l_stuck : PySem.W.codeIn K cd_l_stuck "_law_stuck" = true) (k_l_stuck : PySem.W.keepIn K (.ref F_l_stuck) = true)
    {F_l_right : Addr} {od_l_right an_l_right : Option Addr} {sl_l_right : Array (Option Value)} {oc_l_right kV_l_right dc_l_right pm_l_right cd_l_right ct_l_right : Value} (a_l_right : PySem.W.nsIn K mainGlobals "_law_right" = some (some (.ref F_l_right))) (l_l_right : K.lookup F_l_right = some ⟨oc_l_right, od_l_right, .func (PySem.W.fnOf "_law_right" "_law_right" (defArgs s_l_right) (defBody s_l_right) (defScope s_l_right) .none kV_l_right dc_l_right pm_l_right an_l_right cd_l_right ct_l_right), sl_l_right⟩) (c_l_right : PySem.W.codeIn K cd_l_right "_law_right" = true) (k_l_right : PySem.W.keepIn K (.ref F_l_right) = true)
    {F_law : Addr} {od_law an_law : Option Addr} {sl_law : Array (Option Value)} {oc_law kV_law dc_law pm_law cd_law ct_law : Value} (a_law : PySem.W.nsIn K mainGlobals "law" = some (some (.ref F_law))) (l_law : K.lookup F_law = some ⟨oc_law, od_law, .func (PySem.W.fnOf "law" "law" (defArgs s_law) (defBody s_law) (defScope s_law) .none kV_law dc_law pm_law an_law cd_law ct_law), sl_law⟩) (c_law : PySem.W.codeIn K cd_law "law" = true) (k_law : PySem.W.keepIn K (.ref F_law) = true)
    {cChangeError : Addr}
    {cStuck fStuck NnStuck : Addr} {nmStuck qnStuck : Str} {bsStuck : List Value} {snStuck : List Str} {subStuck : List Value} {abStuck : Bool} {colStuck : Option Bool} {ddStuck : Option Addr} {m0Stuck m1Stuck m2Stuck m3Stuck m5Stuck : Option Value} {odIStuck anIStuck : Option Addr} {slIStuck : Array (Option Value)} {ocIStuck kVIStuck dcIStuck pmIStuck cdIStuck ctIStuck : Value}
    {cPurse : Addr}
    {fPurse_init : Addr} {odPurse_init anPurse_init : Option Addr} {slPurse_init : Array (Option Value)} {ocPurse_init kVPurse_init dcPurse_init pmPurse_init cdPurse_init ctPurse_init : Value}
    {fPurse_eq : Addr} {odPurse_eq anPurse_eq : Option Addr} {slPurse_eq : Array (Option Value)} {ocPurse_eq kVPurse_eq dcPurse_eq pmPurse_eq cdPurse_eq ctPurse_eq : Value}
    {fPurse_add : Addr} {odPurse_add anPurse_add : Option Addr} {slPurse_add : Array (Option Value)} {ocPurse_add kVPurse_add dcPurse_add pmPurse_add cdPurse_add ctPurse_add : Value}
    {fPurse_sub : Addr} {odPurse_sub anPurse_sub : Option Addr} {slPurse_sub : Array (Option Value)} {ocPurse_sub kVPurse_sub dcPurse_sub pmPurse_sub cdPurse_sub ctPurse_sub : Value}
    {fPurse_contains : Addr} {odPurse_contains anPurse_contains : Option Addr} {slPurse_contains : Array (Option Value)} {ocPurse_contains kVPurse_contains dcPurse_contains pmPurse_contains cdPurse_contains ctPurse_contains : Value}
    {fPurse_covers : Addr} {odPurse_covers anPurse_covers : Option Addr} {slPurse_covers : Array (Option Value)} {ocPurse_covers kVPurse_covers dcPurse_covers pmPurse_covers cdPurse_covers ctPurse_covers : Value}
    (a_ChangeError : PySem.W.nsIn K mainGlobals "ChangeError" = some (some (.ref cChangeError)))
    (g_cl : PySem.W.specialIn K (.builtin "object.__class__") "__get__" = some (some (.builtin "getset_descriptor.__get__")))
    (t_cl : PySem.W.takesIn K (.builtin "object.__class__") = some true)
    (a_Stuck : PySem.W.nsIn K mainGlobals "Stuck" = some (some (.ref cStuck)))
    (x_Stuck : K.lookup cStuck = some (excClassObj nmStuck qnStuck cStuck NnStuck bsStuck [.ref cChangeError, .type "ValueError", .type "Exception", .type "BaseException", .type "object"] true snStuck subStuck abStuck colStuck ddStuck m0Stuck m1Stuck m2Stuck m3Stuck m5Stuck "ValueError.__new__"))
    (fsa_Stuck : PySem.W.findIn K (.ref cStuck) "__setattr__" = some (some (.builtin "object.__setattr__")))
    (fga_Stuck : PySem.W.findIn K (.ref cStuck) "__getattribute__" = some (some (.builtin "BaseException.__getattribute__")))
    (fgg_Stuck : PySem.W.findIn K (.ref cStuck) "__getattr__" = some none)
    (fno_Stuck : PySem.W.findIn K (.ref cStuck) "index" = some none)
    (fiC_Stuck : PySem.W.findIn K (.ref cStuck) "__init__" = some (some (.ref fStuck)))
    (fcl_Stuck : PySem.W.findIn K (.ref cStuck) "__class__" = some (some (.builtin "object.__class__")))
    (tf_Stuck : PySem.W.typeIn K (.ref fStuck) = some (.type "function"))
    (t_Stuck : PySem.W.typeIn K (.ref cStuck) = some (.type "type"))
    (k_Stuck : PySem.W.keepIn K (.ref cStuck) = true)
    (e_Stuck : PySem.W.subIn K (.ref cStuck) (.type "BaseException") = some true)
    (s_Stuck : PySem.W.subIn K (.ref cStuck) (.ref cStuck) = some true)
    (h_Stuck : PySem.W.hasDictIn K cStuck = true)
    (m_Stuck : PySem.W.mroIn K cStuck (.type "object") = some true)
    (lf_Stuck : K.lookup fStuck = some ⟨ocIStuck, odIStuck, .func (PySem.W.fnOf "__init__" "Stuck.__init__" (defArgs s_Stuck_init) (defBody s_Stuck_init) (defScope s_Stuck_init) .none kVIStuck dcIStuck pmIStuck anIStuck cdIStuck ctIStuck), slIStuck⟩)
    (cf_Stuck : PySem.W.codeIn K cdIStuck "Stuck.__init__" = true)
    (kf_Stuck : PySem.W.keepIn K (.ref fStuck) = true)
    (a_Purse : PySem.W.nsIn K mainGlobals "Purse" = some (some (.ref cPurse)))
    (pg_Purse : PySem.W.plainGet K cPurse Str.empty = true)
    (hd_Purse : PySem.W.hasDictIn K cPurse = true)
    (po_Purse : PySem.W.plainOver K cPurse = true)
    (sa_Purse : PySem.W.findIn K (.ref cPurse) "__setattr__" = some (some (.builtin "object.__setattr__")))
    (mk_Purse : PySem.W.makesIn K cPurse = true)
    (kp_Purse : PySem.W.keepIn K (.ref cPurse) = true)
    (ha_Purse : PySem.W.findIn K (.ref cPurse) "__class__" = some (some (.builtin "object.__class__")))
    (hm_Purse : PySem.W.mroIn K cPurse (.type "object") = some true)
    (na_Purse_amounts : PySem.W.findIn K (.ref cPurse) "amounts" = some none)
    (at_Purse_init : PySem.W.findIn K (.ref cPurse) "__init__" = some (some (.ref fPurse_init)))
    (fn_Purse_init : PySem.W.isFn K (.ref fPurse_init) = true)
    (kf_Purse_init : PySem.W.keepIn K (.ref fPurse_init) = true)
    (lf_Purse_init : K.lookup fPurse_init = some ⟨ocPurse_init, odPurse_init, .func (PySem.W.fnOf "__init__" "Purse.__init__" (defArgs s_Purse_init) (defBody s_Purse_init) (defScope s_Purse_init) .none kVPurse_init dcPurse_init pmPurse_init anPurse_init cdPurse_init ctPurse_init), slPurse_init⟩)
    (cf_Purse_init : PySem.W.codeIn K cdPurse_init "Purse.__init__" = true)
    (at_Purse_eq : PySem.W.findIn K (.ref cPurse) "__eq__" = some (some (.ref fPurse_eq)))
    (fn_Purse_eq : PySem.W.isFn K (.ref fPurse_eq) = true)
    (kf_Purse_eq : PySem.W.keepIn K (.ref fPurse_eq) = true)
    (lf_Purse_eq : K.lookup fPurse_eq = some ⟨ocPurse_eq, odPurse_eq, .func (PySem.W.fnOf "__eq__" "Purse.__eq__" (defArgs s_Purse_eq) (defBody s_Purse_eq) (defScope s_Purse_eq) .none kVPurse_eq dcPurse_eq pmPurse_eq anPurse_eq cdPurse_eq ctPurse_eq), slPurse_eq⟩)
    (cf_Purse_eq : PySem.W.codeIn K cdPurse_eq "Purse.__eq__" = true)
    (at_Purse_add : PySem.W.findIn K (.ref cPurse) "__add__" = some (some (.ref fPurse_add)))
    (fn_Purse_add : PySem.W.isFn K (.ref fPurse_add) = true)
    (kf_Purse_add : PySem.W.keepIn K (.ref fPurse_add) = true)
    (lf_Purse_add : K.lookup fPurse_add = some ⟨ocPurse_add, odPurse_add, .func (PySem.W.fnOf "__add__" "Purse.__add__" (defArgs s_Purse_add) (defBody s_Purse_add) (defScope s_Purse_add) .none kVPurse_add dcPurse_add pmPurse_add anPurse_add cdPurse_add ctPurse_add), slPurse_add⟩)
    (cf_Purse_add : PySem.W.codeIn K cdPurse_add "Purse.__add__" = true)
    (at_Purse_sub : PySem.W.findIn K (.ref cPurse) "__sub__" = some (some (.ref fPurse_sub)))
    (fn_Purse_sub : PySem.W.isFn K (.ref fPurse_sub) = true)
    (kf_Purse_sub : PySem.W.keepIn K (.ref fPurse_sub) = true)
    (lf_Purse_sub : K.lookup fPurse_sub = some ⟨ocPurse_sub, odPurse_sub, .func (PySem.W.fnOf "__sub__" "Purse.__sub__" (defArgs s_Purse_sub) (defBody s_Purse_sub) (defScope s_Purse_sub) .none kVPurse_sub dcPurse_sub pmPurse_sub anPurse_sub cdPurse_sub ctPurse_sub), slPurse_sub⟩)
    (cf_Purse_sub : PySem.W.codeIn K cdPurse_sub "Purse.__sub__" = true)
    (at_Purse_contains : PySem.W.findIn K (.ref cPurse) "__contains__" = some (some (.ref fPurse_contains)))
    (fn_Purse_contains : PySem.W.isFn K (.ref fPurse_contains) = true)
    (kf_Purse_contains : PySem.W.keepIn K (.ref fPurse_contains) = true)
    (lf_Purse_contains : K.lookup fPurse_contains = some ⟨ocPurse_contains, odPurse_contains, .func (PySem.W.fnOf "__contains__" "Purse.__contains__" (defArgs s_Purse_contains) (defBody s_Purse_contains) (defScope s_Purse_contains) .none kVPurse_contains dcPurse_contains pmPurse_contains anPurse_contains cdPurse_contains ctPurse_contains), slPurse_contains⟩)
    (cf_Purse_contains : PySem.W.codeIn K cdPurse_contains "Purse.__contains__" = true)
    (at_Purse_covers : PySem.W.findIn K (.ref cPurse) "covers" = some (some (.ref fPurse_covers)))
    (fn_Purse_covers : PySem.W.isFn K (.ref fPurse_covers) = true)
    (kf_Purse_covers : PySem.W.keepIn K (.ref fPurse_covers) = true)
    (lf_Purse_covers : K.lookup fPurse_covers = some ⟨ocPurse_covers, odPurse_covers, .func (PySem.W.fnOf "covers" "Purse.covers" (defArgs s_Purse_covers) (defBody s_Purse_covers) (defScope s_Purse_covers) .none kVPurse_covers dcPurse_covers pmPurse_covers anPurse_covers cdPurse_covers ctPurse_covers), slPurse_covers⟩)
    (cf_Purse_covers : PySem.W.codeIn K cdPurse_covers "Purse.covers" = true)
    (first_Purse : PySem.W.selfFirst K cPurse = true)
    (ne_Purse : PySem.W.findIn K (.ref cPurse) "__ne__" = some (some (.builtin "object.__ne__")))
    (z_abs : PySem.W.nsIn K mainGlobals "abs" = some none)
    (z_all : PySem.W.nsIn K mainGlobals "all" = some none)
    (z_any : PySem.W.nsIn K mainGlobals "any" = some none)
    (z_bool : PySem.W.nsIn K mainGlobals "bool" = some none)
    (z_enumerate : PySem.W.nsIn K mainGlobals "enumerate" = some none)
    (z_int : PySem.W.nsIn K mainGlobals "int" = some none)
    (z_isinstance : PySem.W.nsIn K mainGlobals "isinstance" = some none)
    (z_iter : PySem.W.nsIn K mainGlobals "iter" = some none)
    (z_len : PySem.W.nsIn K mainGlobals "len" = some none)
    (z_list : PySem.W.nsIn K mainGlobals "list" = some none)
    (z_max : PySem.W.nsIn K mainGlobals "max" = some none)
    (z_range : PySem.W.nsIn K mainGlobals "range" = some none)
    (z_repr : PySem.W.nsIn K mainGlobals "repr" = some none)
    (z_set : PySem.W.nsIn K mainGlobals "set" = some none)
    (z_sorted : PySem.W.nsIn K mainGlobals "sorted" = some none)
    (z_tuple : PySem.W.nsIn K mainGlobals "tuple" = some none)
    (z_zip : PySem.W.nsIn K mainGlobals "zip" = some none)
    {t_MAX_KINDS : Tok} (g_MAX_KINDS : PySem.W.nsIn K mainGlobals "MAX_KINDS" = some (some (.int 4 t_MAX_KINDS)))
    {t_MAX_AMOUNT : Tok} (g_MAX_AMOUNT : PySem.W.nsIn K mainGlobals "MAX_AMOUNT" = some (some (.int 30 t_MAX_AMOUNT))) :
    ∃ fd : FuncData, (∀ (s : Shared) (v : Value), BindsTo s fd ⟨[v], []⟩ [("_law_script", v)]) ∧ ∀ base : Heap, K.In base → base.Ns mainGlobals mg → FnG l.prog w K mg base 9 fa fd ["_law_script"] (sp_law K) := by
  have e := hfa.symm.trans (PySem.W.mg_of X G a_law)
  cases e
  have T : Txt mg := ⟨PySem.W.mg_none_of X G z_abs, PySem.W.mg_none_of X G z_all, PySem.W.mg_none_of X G z_any, PySem.W.mg_none_of X G z_bool, PySem.W.mg_none_of X G z_enumerate, PySem.W.mg_none_of X G z_int, PySem.W.mg_none_of X G z_isinstance, PySem.W.mg_none_of X G z_iter, PySem.W.mg_none_of X G z_len, PySem.W.mg_none_of X G z_list, PySem.W.mg_none_of X G z_max, PySem.W.mg_none_of X G z_range, PySem.W.mg_none_of X G z_repr, PySem.W.mg_none_of X G z_set, PySem.W.mg_none_of X G z_sorted, PySem.W.mg_none_of X G z_tuple, PySem.W.mg_none_of X G z_zip, ⟨_, PySem.W.mg_of X G g_MAX_KINDS⟩, ⟨_, PySem.W.mg_of X G g_MAX_AMOUNT⟩⟩
  have XStuck : XVal K mg "Stuck" "index" cStuck fStuck :=
    { g := PySem.W.mg_of X G a_Stuck, oex := ⟨⟨nmStuck, qnStuck, NnStuck, bsStuck, _, snStuck, subStuck, abStuck, colStuck, ddStuck, m0Stuck, m1Stuck, m2Stuck, m3Stuck, m5Stuck, x_Stuck, by rfl⟩, fsa_Stuck, e_Stuck, t_Stuck, k_Stuck⟩, no := fno_Stuck, iC := fiC_Stuck, tI := tf_Stuck, xf := ⟨fga_Stuck, fgg_Stuck, e_Stuck, h_Stuck⟩,
      ec := ⟨fga_Stuck, fgg_Stuck, e_Stuck, h_Stuck, fcl_Stuck, g_cl, t_cl, m_Stuck⟩, te := PySem.W.exm_ref e_Stuck h_Stuck t_Stuck s_Stuck }
  have iStuck : IniF K "Stuck.__init__" "index" s_Stuck_init fStuck := ⟨_, fun_mk (st := s_Stuck_init) lf_Stuck cf_Stuck kf_Stuck, (fun_mk (st := s_Stuck_init) lf_Stuck cf_Stuck kf_Stuck).binds (ps := ["self", "index"]) fun _ _ _ _ _ _ us hl => match us, hl with | [_, _], _ => rfl⟩
  have IPurse : InsC K cPurse := ⟨⟨pg_Purse, hd_Purse, po_Purse, sa_Purse⟩, ha_Purse, g_cl, t_cl, hm_Purse⟩
  have fun_Purse_init := fun_mk (st := s_Purse_init) lf_Purse_init cf_Purse_init kf_Purse_init
  have bin_Purse_init := fun_Purse_init.binds (ps := ["self", "amounts"]) fun _ _ _ _ _ _ us hl => match us, hl with | [_, _], _ => rfl
  have mak_Purse : Mk K cPurse fPurse_init := ⟨mk_Purse, at_Purse_init, fn_Purse_init, kp_Purse⟩
  have fun_Purse_eq := fun_mk (st := s_Purse_eq) lf_Purse_eq cf_Purse_eq kf_Purse_eq
  have bin_Purse_eq := fun_Purse_eq.binds (ps := ["self", "other"]) fun _ _ _ _ _ _ us hl => match us, hl with | [_, _], _ => rfl
  have met_Purse_eq : Meth K cPurse "__eq__" fPurse_eq := ⟨at_Purse_eq, fn_Purse_eq, kf_Purse_eq⟩
  have fun_Purse_add := fun_mk (st := s_Purse_add) lf_Purse_add cf_Purse_add kf_Purse_add
  have bin_Purse_add := fun_Purse_add.binds (ps := ["self", "other"]) fun _ _ _ _ _ _ us hl => match us, hl with | [_, _], _ => rfl
  have met_Purse_add : Meth K cPurse "__add__" fPurse_add := ⟨at_Purse_add, fn_Purse_add, kf_Purse_add⟩
  have fun_Purse_sub := fun_mk (st := s_Purse_sub) lf_Purse_sub cf_Purse_sub kf_Purse_sub
  have bin_Purse_sub := fun_Purse_sub.binds (ps := ["self", "other"]) fun _ _ _ _ _ _ us hl => match us, hl with | [_, _], _ => rfl
  have met_Purse_sub : Meth K cPurse "__sub__" fPurse_sub := ⟨at_Purse_sub, fn_Purse_sub, kf_Purse_sub⟩
  have fun_Purse_contains := fun_mk (st := s_Purse_contains) lf_Purse_contains cf_Purse_contains kf_Purse_contains
  have bin_Purse_contains := fun_Purse_contains.binds (ps := ["self", "x"]) fun _ _ _ _ _ _ us hl => match us, hl with | [_, _], _ => rfl
  have met_Purse_contains : Meth K cPurse "__contains__" fPurse_contains := ⟨at_Purse_contains, fn_Purse_contains, kf_Purse_contains⟩
  have fun_Purse_covers := fun_mk (st := s_Purse_covers) lf_Purse_covers cf_Purse_covers kf_Purse_covers
  have bin_Purse_covers := fun_Purse_covers.binds (ps := ["self", "other"]) fun _ _ _ _ _ _ us hl => match us, hl with | [_, _], _ => rfl
  have met_Purse_covers : Meth K cPurse "covers" fPurse_covers := ⟨at_Purse_covers, fn_Purse_covers, kf_Purse_covers⟩
  have R : TxP K mg cPurse fPurse_init fPurse_eq fPurse_add fPurse_sub fPurse_contains fPurse_covers := ⟨PySem.W.mg_of X G a_Purse, IPurse, mak_Purse, na_Purse_amounts, if_pos (beq_self_eq_true _), first_Purse, ⟨at_Purse_eq, fn_Purse_eq⟩, ne_Purse, ⟨at_Purse_add, fn_Purse_add⟩, ⟨at_Purse_sub, fn_Purse_sub⟩, ⟨at_Purse_contains, fn_Purse_contains⟩, met_Purse_covers⟩
  have D_is_whole : Df K mg "is_whole" s_is_whole ["value"] := ⟨_, _, fun_mk (st := s_is_whole) l_is_whole c_is_whole k_is_whole, PySem.W.mg_of X G a_is_whole, (fun_mk (st := s_is_whole) l_is_whole c_is_whole k_is_whole).binds (ps := ["value"]) fun _ _ _ _ _ _ us hl => match us, hl with | [_], _ => rfl⟩
  have D_is_within : Df K mg "is_within" s_is_within ["value", "low", "high"] := ⟨_, _, fun_mk (st := s_is_within) l_is_within c_is_within k_is_within, PySem.W.mg_of X G a_is_within, (fun_mk (st := s_is_within) l_is_within c_is_within k_is_within).binds (ps := ["value", "low", "high"]) fun _ _ _ _ _ _ us hl => match us, hl with | [_, _, _], _ => rfl⟩
  have D_is_amount : Df K mg "is_amount" s_is_amount ["value"] := ⟨_, _, fun_mk (st := s_is_amount) l_is_amount c_is_amount k_is_amount, PySem.W.mg_of X G a_is_amount, (fun_mk (st := s_is_amount) l_is_amount c_is_amount k_is_amount).binds (ps := ["value"]) fun _ _ _ _ _ _ us hl => match us, hl with | [_], _ => rfl⟩
  have D_is_offer : Df K mg "is_offer" s_is_offer ["kinds", "value"] := ⟨_, _, fun_mk (st := s_is_offer) l_is_offer c_is_offer k_is_offer, PySem.W.mg_of X G a_is_offer, (fun_mk (st := s_is_offer) l_is_offer c_is_offer k_is_offer).binds (ps := ["kinds", "value"]) fun _ _ _ _ _ _ us hl => match us, hl with | [_, _], _ => rfl⟩
  have D_check_kinds : Df K mg "check_kinds" s_check_kinds ["one", "other"] := ⟨_, _, fun_mk (st := s_check_kinds) l_check_kinds c_check_kinds k_check_kinds, PySem.W.mg_of X G a_check_kinds, (fun_mk (st := s_check_kinds) l_check_kinds c_check_kinds k_check_kinds).binds (ps := ["one", "other"]) fun _ _ _ _ _ _ us hl => match us, hl with | [_, _], _ => rfl⟩
  have D_walk : Df K mg "walk" s_walk ["board", "purse", "way"] := ⟨_, _, fun_mk (st := s_walk) l_walk c_walk k_walk, PySem.W.mg_of X G a_walk, (fun_mk (st := s_walk) l_walk c_walk k_walk).binds (ps := ["board", "purse", "way"]) fun _ _ _ _ _ _ us hl => match us, hl with | [_, _, _], _ => rfl⟩
  have D_need_of : Df K mg "need_of" s_need_of ["board", "way"] := ⟨_, _, fun_mk (st := s_need_of) l_need_of c_need_of k_need_of, PySem.W.mg_of X G a_need_of, (fun_mk (st := s_need_of) l_need_of c_need_of k_need_of).binds (ps := ["board", "way"]) fun _ _ _ _ _ _ us hl => match us, hl with | [_, _], _ => rfl⟩
  have D_change_of : Df K mg "change_of" s_change_of ["board", "way"] := ⟨_, _, fun_mk (st := s_change_of) l_change_of c_change_of k_change_of, PySem.W.mg_of X G a_change_of, (fun_mk (st := s_change_of) l_change_of c_change_of k_change_of).binds (ps := ["board", "way"]) fun _ _ _ _ _ _ us hl => match us, hl with | [_, _], _ => rfl⟩
  have D_way_tally : Df K mg "way_tally" s_way_tally ["board", "way"] := ⟨_, _, fun_mk (st := s_way_tally) l_way_tally c_way_tally k_way_tally, PySem.W.mg_of X G a_way_tally, (fun_mk (st := s_way_tally) l_way_tally c_way_tally k_way_tally).binds (ps := ["board", "way"]) fun _ _ _ _ _ _ us hl => match us, hl with | [_, _], _ => rfl⟩
  have D_step_tally : Df K mg "step_tally" s_step_tally ["board", "step"] := ⟨_, _, fun_mk (st := s_step_tally) l_step_tally c_step_tally k_step_tally, PySem.W.mg_of X G a_step_tally, (fun_mk (st := s_step_tally) l_step_tally c_step_tally k_step_tally).binds (ps := ["board", "step"]) fun _ _ _ _ _ _ us hl => match us, hl with | [_, _], _ => rfl⟩
  have D_run_tally : Df K mg "run_tally" s_run_tally ["board", "run"] := ⟨_, _, fun_mk (st := s_run_tally) l_run_tally c_run_tally k_run_tally, PySem.W.mg_of X G a_run_tally, (fun_mk (st := s_run_tally) l_run_tally c_run_tally k_run_tally).binds (ps := ["board", "run"]) fun _ _ _ _ _ _ us hl => match us, hl with | [_, _], _ => rfl⟩
  have D_l_deck : Df K mg "_law_deck" s_l_deck ["_law_script"] := ⟨_, _, fun_mk (st := s_l_deck) l_l_deck c_l_deck k_l_deck, PySem.W.mg_of X G a_l_deck, (fun_mk (st := s_l_deck) l_l_deck c_l_deck k_l_deck).binds (ps := ["_law_script"]) fun _ _ _ _ _ _ us hl => match us, hl with | [_], _ => rfl⟩
  have D_l_draw : Df K mg "_law_draw" s_l_draw ["_law_deck_here", "_law_many"] := ⟨_, _, fun_mk (st := s_l_draw) l_l_draw c_l_draw k_l_draw, PySem.W.mg_of X G a_l_draw, (fun_mk (st := s_l_draw) l_l_draw c_l_draw k_l_draw).binds (ps := ["_law_deck_here", "_law_many"]) fun _ _ _ _ _ _ us hl => match us, hl with | [_, _], _ => rfl⟩
  have D_l_board : Df K mg "_law_board" s_l_board ["_law_deck_here", "_law_kinds", "_law_many", "_law_upto"] := ⟨_, _, fun_mk (st := s_l_board) l_l_board c_l_board k_l_board, PySem.W.mg_of X G a_l_board, (fun_mk (st := s_l_board) l_l_board c_l_board k_l_board).binds (ps := ["_law_deck_here", "_law_kinds", "_law_many", "_law_upto"]) fun _ _ _ _ _ _ us hl => match us, hl with | [_, _, _, _], _ => rfl⟩
  have D_l_gone : Df K mg "_law_gone" s_l_gone ["_law_board_here", "_law_purse", "_law_index"] := ⟨_, _, fun_mk (st := s_l_gone) l_l_gone c_l_gone k_l_gone, PySem.W.mg_of X G a_l_gone, (fun_mk (st := s_l_gone) l_l_gone c_l_gone k_l_gone).binds (ps := ["_law_board_here", "_law_purse", "_law_index"]) fun _ _ _ _ _ _ us hl => match us, hl with | [_, _, _], _ => rfl⟩
  have D_l_went : Df K mg "_law_went" s_l_went ["_law_board_here", "_law_begun", "_law_way"] := ⟨_, _, fun_mk (st := s_l_went) l_l_went c_l_went k_l_went, PySem.W.mg_of X G a_l_went, (fun_mk (st := s_l_went) l_l_went c_l_went k_l_went).binds (ps := ["_law_board_here", "_law_begun", "_law_way"]) fun _ _ _ _ _ _ us hl => match us, hl with | [_, _, _], _ => rfl⟩
  have D_l_stuck : Df K mg "_law_stuck" s_l_stuck ["_law_board_here", "_law_begun", "_law_way"] := ⟨_, _, fun_mk (st := s_l_stuck) l_l_stuck c_l_stuck k_l_stuck, PySem.W.mg_of X G a_l_stuck, (fun_mk (st := s_l_stuck) l_l_stuck c_l_stuck k_l_stuck).binds (ps := ["_law_board_here", "_law_begun", "_law_way"]) fun _ _ _ _ _ _ us hl => match us, hl with | [_, _, _], _ => rfl⟩
  have D_l_right : Df K mg "_law_right" s_l_right ["_law_board_here", "_law_begun", "_law_way"] := ⟨_, _, fun_mk (st := s_l_right) l_l_right c_l_right k_l_right, PySem.W.mg_of X G a_l_right, (fun_mk (st := s_l_right) l_l_right c_l_right k_l_right).binds (ps := ["_law_board_here", "_law_begun", "_law_way"]) fun _ _ _ _ _ _ us hl => match us, hl with | [_, _, _], _ => rfl⟩
  have D_law : Df K mg "law" s_law ["_law_script"] := ⟨_, _, fun_mk (st := s_law) l_law c_law k_law, PySem.W.mg_of X G a_law, (fun_mk (st := s_law) l_law c_law k_law).binds (ps := ["_law_script"]) fun _ _ _ _ _ _ us hl => match us, hl with | [_], _ => rfl⟩
  refine ⟨PySem.W.fnOf "law" "law" (defArgs s_law) (defBody s_law) (defScope s_law) .none kV_law dc_law pm_law an_law cd_law ct_law, fun s v => .of_eq rfl, fun base _ _ => ?_⟩
  have C_is_whole : Cal l.prog w K mg base "is_whole" ["value"] 1 (sp_is_whole K) := ok_is_whole T D_is_whole
  have C_check_kinds : Cal l.prog w K mg base "check_kinds" ["one", "other"] 1 (sp_check cPurse) := ok_check_kinds T R D_check_kinds
  have C_run_tally : Cal l.prog w K mg base "run_tally" ["board", "run"] 1 (sp_run_tally K) := ok_run_tally T D_run_tally
  have C_l_deck : Cal l.prog w K mg base "_law_deck" ["_law_script"] 1 (sp_l_deck K) := ok_l_deck T D_l_deck
  have C_l_draw : Cal l.prog w K mg base "_law_draw" ["_law_deck_here", "_law_many"] 1 (sp_l_draw K) := ok_l_draw T D_l_draw
  have C_is_within : Cal l.prog w K mg base "is_within" ["value", "low", "high"] 2 (sp_is_within K) := ok_is_within T D_is_within C_is_whole
  have C_is_amount : Cal l.prog w K mg base "is_amount" ["value"] 2 (sp_is_amount K) := ok_is_amount T D_is_amount C_is_whole
  have C_l_board : Cal l.prog w K mg base "_law_board" ["_law_deck_here", "_law_kinds", "_law_many", "_law_upto"] 2 (sp_l_board K) := ok_l_board T D_l_board C_l_draw
  have C_is_offer : Cal l.prog w K mg base "is_offer" ["kinds", "value"] 3 (sp_is_offer K) := ok_is_offer T D_is_offer C_is_within

  have CX_walk : CalX l.prog w K mg base "walk" ["board", "purse", "way"] 5 (sp_walkX cStuck) := ok_walkX T XStuck iStuck D_walk (ok_step_tally T D_step_tally C_run_tally (ok_wayG T D_way_tally (ok_step0 T D_step_tally C_run_tally)))
  have C_walk : Cal l.prog w K mg base "walk" ["board", "purse", "way"] 5 (sp_walk K) := ok_walk0 CX_walk
  have C_step_tally : Cal l.prog w K mg base "step_tally" ["board", "step"] 4 (sp_step_tally K) := ok_step_tally T D_step_tally C_run_tally (ok_wayG T D_way_tally (ok_step0 T D_step_tally C_run_tally))
  have C_way_tally : Cal l.prog w K mg base "way_tally" ["board", "way"] 5 (sp_way_tally K) := ok_wayG (R := fun _ => True) T D_way_tally C_step_tally
  have C_need_of : Cal l.prog w K mg base "need_of" ["board", "way"] 6 (sp_need_of K) := ok_need_of T D_need_of C_way_tally
  have C_change_of : Cal l.prog w K mg base "change_of" ["board", "way"] 6 (sp_change_of K) := ok_change_of T D_change_of C_way_tally
  have G_init := ok_Pinit (P := l.prog) (w := w) (base := base) T R C_is_amount fun_Purse_init
  have G_sub := ok_Psub (P := l.prog) (w := w) (base := base) T R C_check_kinds G_init bin_Purse_init fun_Purse_sub
  have G_add := ok_Padd (P := l.prog) (w := w) (base := base) T R C_check_kinds G_init bin_Purse_init fun_Purse_add
  have G_in := ok_Pin (P := l.prog) (w := w) (base := base) T R C_is_offer fun_Purse_contains
  have G_eq := ok_Peq (P := l.prog) (w := w) (base := base) T R fun_Purse_eq
  have G_cov := ok_Pcov (P := l.prog) (w := w) (base := base) T R C_check_kinds fun_Purse_covers
  have C_l_gone := ok_l_gone (P := l.prog) (w := w) (base := base) T R G_init bin_Purse_init G_sub bin_Purse_sub G_add bin_Purse_add D_l_gone
  have C_l_stuck := ok_l_stuck (P := l.prog) (w := w) (base := base) T XStuck CX_walk D_l_stuck
  have C_l_went := ok_l_went (P := l.prog) (w := w) (base := base) T R G_init bin_Purse_init G_in bin_Purse_contains C_l_gone D_l_went
  have G_l_right := ok_l_right (P := l.prog) (w := w) (base := base) T R G_init bin_Purse_init G_sub bin_Purse_sub G_add bin_Purse_add G_eq bin_Purse_eq G_cov bin_Purse_covers C_l_went C_l_stuck C_need_of C_change_of C_walk (fun_mk (st := s_l_right) l_l_right c_l_right k_l_right)
  have b_l_right := (fun_mk (st := s_l_right) l_l_right c_l_right k_l_right).binds (ps := ["_law_board_here", "_law_begun", "_law_way"]) fun _ _ _ _ _ _ us hl => match us, hl with | [_, _, _], _ => rfl
  exact ok_lawG T (fun_mk (st := s_law) l_law c_law k_law) G_l_right (PySem.W.mg_of X G a_l_right) k_l_right b_l_right C_l_draw C_l_board C_l_deck

end Sm
open PySem PySem.W PyProof.Rows in
set_option maxRecDepth 100000 in
set_option maxHeartbeats 0 in
theorem PySem.Challenge.cw_smallchange_k74_whole_purses_go_the_way_holds : PySem.Challenge.rw_smallchange_k74_whole_purses_go_the_way.Holds := by
  w_on; o_law; k_head; (case hw => w_witness2)
  k_fill
  refine Sm.walk_at_law (l := PySem.Challenge.rw_smallchange_k74_whole_purses_go_the_way) (k := 9) (x := "_law_script") (sp := Sm.sp_law) rfl rfl ⟨rfl, by decide, by decide⟩ (fun w h Y => PySem.W.kIn_of Y) ?F (fun _ _ a ns hl hS => ⟨a, ns, rfl, hS, hl, fun _ => rfl⟩)
  case F =>
    intro w mg fa h KX G hmg
    refine' Sm.all_mk KX G hmg ?a_is_whole ?l_is_whole ?c_is_whole ?k_is_whole ?a_is_within ?l_is_within ?c_is_within ?k_is_within ?a_is_amount ?l_is_amount ?c_is_amount ?k_is_amount ?a_is_offer ?l_is_offer ?c_is_offer ?k_is_offer ?a_check_kinds ?l_check_kinds ?c_check_kinds ?k_check_kinds ?a_walk ?l_walk ?c_walk ?k_walk ?a_need_of ?l_need_of ?c_need_of ?k_need_of ?a_change_of ?l_change_of ?c_change_of ?k_change_of ?a_way_tally ?l_way_tally ?c_way_tally ?k_way_tally ?a_step_tally ?l_step_tally ?c_step_tally ?k_step_tally ?a_run_tally ?l_run_tally ?c_run_tally ?k_run_tally ?a_l_deck ?l_l_deck ?c_l_deck ?k_l_deck ?a_l_draw ?l_l_draw ?c_l_draw ?k_l_draw ?a_l_board ?l_l_board ?c_l_board ?k_l_board ?a_l_gone ?l_l_gone ?c_l_gone ?k_l_gone ?a_l_went ?l_l_went ?c_l_went ?k_l_went ?a_l_stuck ?l_l_stuck ?c_l_stuck ?k_l_stuck ?a_l_right ?l_l_right ?c_l_right ?k_l_right ?a_law ?l_law ?c_law ?k_law ?a_ChangeError ?g_cl ?t_cl ?a_Stuck ?x_Stuck ?fsa_Stuck ?fga_Stuck ?fgg_Stuck ?fno_Stuck ?fiC_Stuck ?fcl_Stuck ?tf_Stuck ?t_Stuck ?k_Stuck ?e_Stuck ?s_Stuck ?h_Stuck ?m_Stuck ?lf_Stuck ?cf_Stuck ?kf_Stuck ?a_Purse ?pg_Purse ?hd_Purse ?po_Purse ?sa_Purse ?mk_Purse ?kp_Purse ?ha_Purse ?hm_Purse ?na_Purse_amounts ?at_Purse_init ?fn_Purse_init ?kf_Purse_init ?lf_Purse_init ?cf_Purse_init ?at_Purse_eq ?fn_Purse_eq ?kf_Purse_eq ?lf_Purse_eq ?cf_Purse_eq ?at_Purse_add ?fn_Purse_add ?kf_Purse_add ?lf_Purse_add ?cf_Purse_add ?at_Purse_sub ?fn_Purse_sub ?kf_Purse_sub ?lf_Purse_sub ?cf_Purse_sub ?at_Purse_contains ?fn_Purse_contains ?kf_Purse_contains ?lf_Purse_contains ?cf_Purse_contains ?at_Purse_covers ?fn_Purse_covers ?kf_Purse_covers ?lf_Purse_covers ?cf_Purse_covers ?first_Purse ?ne_Purse ?z_abs ?z_all ?z_any ?z_bool ?z_enumerate ?z_int ?z_isinstance ?z_iter ?z_len ?z_list ?z_max ?z_range ?z_repr ?z_set ?z_sorted ?z_tuple ?z_zip ?g_MAX_KINDS ?g_MAX_AMOUNT
    (case a_is_whole => k_is)
    (case l_is_whole => k_is)
    (case c_is_whole => k_is)
    (case k_is_whole => k_is)
    (case a_is_within => k_is)
    (case l_is_within => k_is)
    (case c_is_within => k_is)
    (case k_is_within => k_is)
    (case a_is_amount => k_is)
    (case l_is_amount => k_is)
    (case c_is_amount => k_is)
    (case k_is_amount => k_is)
    (case a_is_offer => k_is)
    (case l_is_offer => k_is)
    (case c_is_offer => k_is)
    (case k_is_offer => k_is)
    (case a_check_kinds => k_is)
    (case l_check_kinds => k_is)
    (case c_check_kinds => k_is)
    (case k_check_kinds => k_is)
    (case a_walk => k_is)
    (case l_walk => k_is)
    (case c_walk => k_is)
    (case k_walk => k_is)
    (case a_need_of => k_is)
    (case l_need_of => k_is)
    (case c_need_of => k_is)
    (case k_need_of => k_is)
    (case a_change_of => k_is)
    (case l_change_of => k_is)
    (case c_change_of => k_is)
    (case k_change_of => k_is)
    (case a_way_tally => k_is)
    (case l_way_tally => k_is)
    (case c_way_tally => k_is)
    (case k_way_tally => k_is)
    (case a_step_tally => k_is)
    (case l_step_tally => k_is)
    (case c_step_tally => k_is)
    (case k_step_tally => k_is)
    (case a_run_tally => k_is)
    (case l_run_tally => k_is)
    (case c_run_tally => k_is)
    (case k_run_tally => k_is)
    (case a_l_deck => k_is)
    (case l_l_deck => k_is)
    (case c_l_deck => k_is)
    (case k_l_deck => k_is)
    (case a_l_draw => k_is)
    (case l_l_draw => k_is)
    (case c_l_draw => k_is)
    (case k_l_draw => k_is)
    (case a_l_board => k_is)
    (case l_l_board => k_is)
    (case c_l_board => k_is)
    (case k_l_board => k_is)
    (case a_l_gone => k_is)
    (case l_l_gone => k_is)
    (case c_l_gone => k_is)
    (case k_l_gone => k_is)
    (case a_l_went => k_is)
    (case l_l_went => k_is)
    (case c_l_went => k_is)
    (case k_l_went => k_is)
    (case a_l_stuck => k_is)
    (case l_l_stuck => k_is)
    (case c_l_stuck => k_is)
    (case k_l_stuck => k_is)
    (case a_l_right => k_is)
    (case l_l_right => k_is)
    (case c_l_right => k_is)
    (case k_l_right => k_is)
    (case a_law => k_is)
    (case l_law => k_is)
    (case c_law => k_is)
    (case k_law => k_is)
    (case a_ChangeError => first | k_is | rfl | decide +kernel)
    (case g_cl => first | k_is | rfl | decide +kernel)
    (case t_cl => first | k_is | rfl | decide +kernel)
    (case a_Stuck => first | k_is | rfl | decide +kernel)
    (case x_Stuck => first | k_is | rfl | decide +kernel)
    (case fsa_Stuck => first | k_is | rfl | decide +kernel)
    (case fga_Stuck => first | k_is | rfl | decide +kernel)
    (case fgg_Stuck => first | k_is | rfl | decide +kernel)
    (case fno_Stuck => first | k_is | rfl | decide +kernel)
    (case fiC_Stuck => first | k_is | rfl | decide +kernel)
    (case fcl_Stuck => first | k_is | rfl | decide +kernel)
    (case tf_Stuck => first | k_is | rfl | decide +kernel)
    (case t_Stuck => first | k_is | rfl | decide +kernel)
    (case k_Stuck => first | k_is | rfl | decide +kernel)
    (case e_Stuck => first | k_is | rfl | decide +kernel)
    (case s_Stuck => first | k_is | rfl | decide +kernel)
    (case h_Stuck => first | k_is | rfl | decide +kernel)
    (case m_Stuck => first | k_is | rfl | decide +kernel)
    (case lf_Stuck => first | k_is | rfl | decide +kernel)
    (case cf_Stuck => first | k_is | rfl | decide +kernel)
    (case kf_Stuck => first | k_is | rfl | decide +kernel)
    (case a_Purse => first | k_is | rfl | decide +kernel)
    (case pg_Purse => first | k_is | rfl | decide +kernel)
    (case hd_Purse => first | k_is | rfl | decide +kernel)
    (case po_Purse => first | k_is | rfl | decide +kernel)
    (case sa_Purse => first | k_is | rfl | decide +kernel)
    (case mk_Purse => first | k_is | rfl | decide +kernel)
    (case kp_Purse => first | k_is | rfl | decide +kernel)
    (case ha_Purse => first | k_is | rfl | decide +kernel)
    (case hm_Purse => first | k_is | rfl | decide +kernel)
    (case na_Purse_amounts => first | k_is | rfl | decide +kernel)
    (case at_Purse_init => first | k_is | rfl | decide +kernel)
    (case fn_Purse_init => first | k_is | rfl | decide +kernel)
    (case kf_Purse_init => first | k_is | rfl | decide +kernel)
    (case lf_Purse_init => first | k_is | rfl | decide +kernel)
    (case cf_Purse_init => first | k_is | rfl | decide +kernel)
    (case at_Purse_eq => first | k_is | rfl | decide +kernel)
    (case fn_Purse_eq => first | k_is | rfl | decide +kernel)
    (case kf_Purse_eq => first | k_is | rfl | decide +kernel)
    (case lf_Purse_eq => first | k_is | rfl | decide +kernel)
    (case cf_Purse_eq => first | k_is | rfl | decide +kernel)
    (case at_Purse_add => first | k_is | rfl | decide +kernel)
    (case fn_Purse_add => first | k_is | rfl | decide +kernel)
    (case kf_Purse_add => first | k_is | rfl | decide +kernel)
    (case lf_Purse_add => first | k_is | rfl | decide +kernel)
    (case cf_Purse_add => first | k_is | rfl | decide +kernel)
    (case at_Purse_sub => first | k_is | rfl | decide +kernel)
    (case fn_Purse_sub => first | k_is | rfl | decide +kernel)
    (case kf_Purse_sub => first | k_is | rfl | decide +kernel)
    (case lf_Purse_sub => first | k_is | rfl | decide +kernel)
    (case cf_Purse_sub => first | k_is | rfl | decide +kernel)
    (case at_Purse_contains => first | k_is | rfl | decide +kernel)
    (case fn_Purse_contains => first | k_is | rfl | decide +kernel)
    (case kf_Purse_contains => first | k_is | rfl | decide +kernel)
    (case lf_Purse_contains => first | k_is | rfl | decide +kernel)
    (case cf_Purse_contains => first | k_is | rfl | decide +kernel)
    (case at_Purse_covers => first | k_is | rfl | decide +kernel)
    (case fn_Purse_covers => first | k_is | rfl | decide +kernel)
    (case kf_Purse_covers => first | k_is | rfl | decide +kernel)
    (case lf_Purse_covers => first | k_is | rfl | decide +kernel)
    (case cf_Purse_covers => first | k_is | rfl | decide +kernel)
    (case first_Purse => first | k_is | rfl | decide +kernel)
    (case ne_Purse => first | k_is | rfl | decide +kernel)
    (case z_abs => k_is)
    (case z_all => k_is)
    (case z_any => k_is)
    (case z_bool => k_is)
    (case z_enumerate => k_is)
    (case z_int => k_is)
    (case z_isinstance => k_is)
    (case z_iter => k_is)
    (case z_len => k_is)
    (case z_list => k_is)
    (case z_max => k_is)
    (case z_range => k_is)
    (case z_repr => k_is)
    (case z_set => k_is)
    (case z_sorted => k_is)
    (case z_tuple => k_is)
    (case z_zip => k_is)
    (case g_MAX_KINDS => k_is)
    (case g_MAX_AMOUNT => k_is)

