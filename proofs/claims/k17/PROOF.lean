import PyProof.Rows.All
import Wide.All
import OpenK.AllK
import Wide.FinOn
import HandS.ForMost
import HandS.Wide
import HandS.Codes
import PyProof.ReprRoads
import HandS.Gcd
import KE.KMathGC
import HandS.TupMul
import HandS.Conv
import HandS.IsInst
import HandS.Style
import HandS.TupAny
import HandS.ForExc
import HandS.ExcIs
import HandS.ExcInit
import HandS.ExcField
import HandS.ExcOwn
import KE.KExcIs
import PySem.Challenge.RW_smallchange_k17_whole_inverses
set_option Elab.async false
set_option linter.all false
set_option maxRecDepth 100000
set_option maxHeartbeats 4000000
namespace Sm
open PySem PySem.Spec PyProof.Rows L2
/-! ### promises of defs where no repr is under way: as FnOk, with A's guards empty -/
structure FnG (P : Program) (w : World) (K : PySem.W.Frag) (mg : Str → Option Value) (base : Heap) (k : Nat) (f : Addr) (fd : FuncData) (ps : List Str) (sp : Sp) : Prop where
  len : ∀ vs H Q E, sp vs H Q E → vs.length = ps.length
  run : ∀ (A : Around) (outer : List Env) (s : Shared) (H : Hp) (args : Args) (us : List Value) (vs : List V) (Q : VK) (E : XK), A.guards = some [] → Room k A →
    Env0 P w K mg base A outer s H → BindsTo s fd args (ps.zip us) → Vals vs us → sp vs H Q E → codeAny (model P w) A (.call (.ref f) args) (CR CX0 outer P w H s Q E) s
section
variable {P : Program} {w : World} {K : PySem.W.Frag} {mg : Str → Option Value} {base : Heap} {k : Nat} {f : Addr} {fd : FuncData} {ps : List Str} {sp : Sp}
theorem FnG.of (F : FnOk P w K mg base CX0 k f fd ps sp) : FnG P w K mg base k f fd ps sp :=
  ⟨F.len, fun A outer s H args us vs Q E _ hr e b v h => F.run A outer s H args us vs Q E hr e b v h⟩
theorem FnG.body {x : Str} {st : Stmt} {N : List Str} (F : Fun K x x st f fd) (S : FnScope N ps (defScope st)) (len : ∀ vs H Q E, sp vs H Q E → vs.length = ps.length)
    (hb : ∀ (cdv : Value) (A : Around) (outer : List Env) (s : Shared) (H : Hp) (vs : List V) (Q : VK) (E : XK), A.guards = some [] → Room k (A.deeper (envOfC x (defScope st) s.heap.objs.size f cdv)) → sp vs H Q E →
      ∃ t, PSs (cxOf CX0 P w K mg base N x (defScope st) f cdv A outer s H E).nox (defBody st) t ∧ t { nx := fun _ H' => Q .non H', rt := Q } (start N vs) H) : FnG P w K mg base (k + 1) f fd ps sp := by
  obtain ⟨oc, od, kV, doc, pm, an, cdv, ct, osl, efd, look, code⟩ := F.ex
  subst efd
  constructor
  · exact len
  intro A outer s H args us vs Q E guard room e0 bind rel want
  have inn : K.In s.heap := e0.mod.kin.keeps fun b o e => (e0.bs b o e).1
  have nolim : s.heap.NoLimit := e0.mod.nolimit.keeps fun b o e => (e0.bs b o e).1
  refine codeAny_call_function room.depth (inn _ _ look) rfl S.co S.gen rfl (PySem.W.codeRec_of inn code) (bind _ _ _ _ ?_)
  refine wpAny_newFunctionEnv_cells S.kind ?_ ?_
  · rintro ⟨n, v⟩ there
    have := S.par n (List.of_mem_zip there).1
    cases this with
    | inl q => exact .inl q
    | inr q => exact .inr ⟨q, PySem.W.cellsFrom_some _ _ _ (.inl q)⟩
  · intro env eenv s1 laid
    subst eenv
    refine ⟨nolim.keeps laid.toInCall.keep, codeAny_func ?_⟩
    obtain ⟨t, der, goal⟩ := hb cdv A outer s H vs Q E guard (room.deeper _) want
    have I := inv_start (CX := CX0) (E := E) S room.hd e0 (len _ _ _ _ want) rel laid
    refine wpAny_mono (der.nox.run [] s1 (start N vs) H _ I goal) (fun out s' got => ?_) fun e s' got => got
    match out, got with
    | .ret u, ⟨v, σ', H', J, rv, q⟩ => exact ⟨v, H', J.os, J.bare, J.base, J.hok, rv, q⟩
    | .next, ⟨σ', H', J, q⟩ => exact ⟨V.non, H', J.os, J.bare, J.base, J.hok, rfl, q⟩
    | .brk, ⟨_, _, _, q⟩ => exact q.elim
    | .cont, ⟨_, _, _, q⟩ => exact q.elim
end
section
variable {X : Cx} {k : Nat} {f : Addr} {fd : FuncData} {ps : List Str} {sp : Sp} {x : Str} {p pos : Pos} {e : Expr} {es : List Expr} {t : TA}
theorem pe_callG (F : FnG X.prog X.w X.K X.mg X.base k f fd ps sp) (gu : X.A.guards = some []) (hr : Room k X.A) (hg : Gl X x) (hm : X.mg x = some (.ref f)) (hk : PySem.W.keepIn X.K (.ref f) = true) (hb : Binds X.K fd ps [])
    (ha : PA X (e :: es) t) (hdb : (x == ("__debug__" : Str)) = false := by decide) (he : starEach (e :: es) X.env = (false, eval e X.env) :: starEach es X.env := by rfl) (hpl : (backTo pos (starEach es X.env)).any (·.1) = false := by rfl) :
    PE X (.Call (.Name x p) (e :: es) [] pos) (tCall sp [] E0 t) := by
  constructor
  intro pins s σ H Q I want
  refine wpAny_Call_Name_kw (ld_glob I hg hm ?_ hdb)
  refine PySem.W.callWith_K (h₀ := X.base) I.ok.mod.kin hk (thn (ha.run pos pins s σ H _ I want) ?_) he hpl
  rintro us s1 ⟨vs, H1, I1, rel, q⟩
  refine ⟨I1.kIn, ?_⟩
  have q : sp vs H1 Q E0 := by
    have q : sp (vs ++ []) H1 Q E0 := q
    rw [List.append_nil] at q
    exact q
  have b := hb s1 us I1.kIn (by rw [List.append_nil, ← rel.length]; exact F.len _ _ _ _ q)
  rw [List.append_nil] at b
  refine wpAny_call (codeAny_mono (F.run X.A X.stack s1 H1 ⟨us, []⟩ us vs Q E0 gu hr I1.env0 b rel q) ?_)
  rintro (e | out) s' got
  · exact got.elim
  · match out, got with
    | .ret u, got => exact I1.after got
    | .next, got => exact got.elim
    | .brk, got => exact got.elim
    | .cont, got => exact got.elim
/-- repr of data at any depth -/
theorem call_repr_data (gu : X.A.guards = some []) (room : ∃ k, Room k X.A) : CallR X (.builtin "repr") (fun xs H Q => ∃ a d, xs = [.ref a] ∧ Dp X.K H (.ref a) d ∧ PyData.showable d = true ∧ PyData.hasDict d = false ∧ d.depth ≤ 60 ∧ d.shown.length ≤ sizeLine ∧ Q (.str d.shown) H) := by
  intro pins s σ H xs us Q I rel want
  obtain ⟨a, d, rfl, data, sh, nd, dep, len, q⟩ := want
  obtain ⟨u, rfl, ru⟩ := vals1 rel
  obtain ⟨as, reads⟩ := Dp.reads I d _ u data ru
  cases ru
  obtain ⟨k, room⟩ := room
  have un := room.un
  exact repr_of_reads' reads sh (PyData.noDict_hsm nd) gu (by omega) (fun _ _ e => e) (fun h' v tk keep => ⟨.str d.shown, H, I.kept keep, ⟨_, rfl⟩, q⟩) len
end
/-! ### the law's own call, at the caller's place -/
theorem law_at {P : Program} {w : World} {K : PySem.W.Frag} {mg mb : Str → Option Value} {k : Nat} {fa a : Addr} {fd : FuncData} {x : Str} {sp : Sp} {s₁ : Shared} {vs : List Value} {ns : List Int}
    (KX : K.In s₁.heap) (hns : s₁.heap.Ns mainGlobals mg) (hb : s₁.heap.Ns builtinsNs mb) (hbb : ∀ x : Str, x ≠ "__name__" → mb x = bootBuiltins x) (hlim : s₁.heap.NoLimit) (hg : s₁.gens = #[])
    (ha : s₁.heap.get? a = some { cls := .type "list", data := .seq vs.toArray }) (hi : IntsAre vs ns) (hl : ns.length ≤ sizeLine) (hr : Room k callerA)
    (F : ∀ base : Heap, K.In base → base.Ns mainGlobals mg → FnG P w K mg base k fa fd [x] sp) (hbind : ∀ (s : Shared) (u : Value), BindsTo s fd ⟨[u], []⟩ [(x, u)])
    (hsp : ∀ H : Hp, SqL K H a (ns.map V.int) → sp [.ref a] H (fun v _ => v = .bl true) E0) :
    codeAny (model P w) callerA (.call (.ref fa) ⟨[.ref a], []⟩) (fun r s' => r = .ok (.ret (.bool true)) ∧ OldK s₁.heap s'.heap ∧ s'.os = s₁.os ∧ AllBare s'.gens) s₁ := by
  have ivs := vals_ints hi
  -- what is tracked: the script, if the module does not hold it itself
  obtain ⟨H, seq, ok, only, free⟩ : ∃ H : Hp, SqL K H a (ns.map V.int) ∧ HOk P w H s₁.heap ∧ (∀ b u, H b = some u → b = a ∧ u = .frz { cls := .type "list", data := .seq vs.toArray } (.lst (ns.map V.int))) ∧ ∀ b u, H b = some u → K.lookup b = none := by
    cases look : K.lookup a with
    | some o =>
      have same := KX a o look
      rw [ha] at same
      injection same with same
      subst same
      have empty : ∀ {u : HO}, (none : Option HO) = some u → False := fun z => nomatch z
      refine ⟨fun _ => none, .inr ⟨_, vs.toArray, _, look, rfl, rfl, rfl, ?_, ?_⟩, fun b u z => (empty z).elim, fun b u z => (empty z).elim, fun b u z => (empty z).elim⟩
      · rw [List.size_toArray, hi.length]
        exact hl
      · simpa using ivs
    | none =>
      have at_a : ∀ b u, (fun b => if b = a then some (HO.frz { cls := .type "list", data := .seq vs.toArray } (.lst (ns.map V.int))) else none : Hp) b = some u → b = a ∧ u = .frz { cls := .type "list", data := .seq vs.toArray } (.lst (ns.map V.int)) := by
        intro b u z
        by_cases e : b = a
        · have z := (if_pos e).symm.trans z
          exact ⟨e, (Option.some.inj z).symm⟩
        · exact nomatch (if_neg e).symm.trans z
      refine ⟨_, .inl (.inr ⟨_, if_pos rfl⟩), fun b u z => ?_, at_a, fun b u z => ?_⟩
      · obtain ⟨rfl, rfl⟩ := at_a b u z
        exact ⟨ha, by rw [List.length_map]; exact hl, vs, _, ivs, ha⟩
      · rw [(at_a b u z).1]
        exact look
  have stays : ∀ {b : Addr} {o : Obj}, s₁.heap.get? b = some o → (∀ u, H b ≠ some u) → (hidT s₁.heap H).get? b = some o := fun {b o} e no => hidT_get e (by
    cases z : H b with
    | none => rfl
    | some u => exact (no u z).elim)
  have spaces : ∀ {b : Addr} {m : Str → Option Value}, s₁.heap.Ns b m → (hidT s₁.heap H).Ns b m := by
    rintro b m ⟨o, es, ep, there, data, rest⟩
    refine ⟨o, es, ep, stays there fun u z => ?_, data, rest⟩
    rw [(only b u z).1, ha] at there
    injection there with there
    subst there
    exact nomatch data
  have inn : K.In (hidT s₁.heap H) := fun b o e => stays (KX b o e) fun u z => by
    rw [free b u z] at e
    exact nomatch e
  have mod : Mod K mg (hidT s₁.heap H) := by
    obtain ⟨mc, c1, c2⟩ := hlim
    exact ⟨inn, spaces hns, ⟨mb, spaces hb, hbb⟩, mc, spaces c1, c2⟩
  have e0 : Env0 P w K mg (hidT s₁.heap H) callerA [] s₁ H := by
    refine ⟨rfl, mod, fun b o e => of_hidT e, Nat.le_of_eq (hidT_size _ _), trivial, ?_, ok, .of_eq hg⟩
    intro b q
    exact absurd q (List.not_mem_nil (a := b))
  refine codeAny_mono ((F _ inn (spaces hns)).run callerA [] s₁ H ⟨[.ref a], []⟩ [.ref a] [.ref a] _ _ rfl hr e0 (hbind s₁ (.ref a)) (.cons rfl .nil) (hsp H seq)) ?_
  rintro (e | out) s' got
  · exact got.elim
  · match out, got with
    | .next, got => exact got.elim
    | .brk, got => exact got.elim
    | .cont, got => exact got.elim
    | .ret u, ⟨v, H', os, bare, un, ok', rel, q⟩ =>
      have q : v = V.bl true := q
      subst q
      have rel : u = Value.bool true := rel
      subst rel
      refine ⟨rfl, .of_keep fun b o e => ?_, os, bare⟩
      cases z : H b with
      | none => exact un.keep b o e z (List.not_mem_nil (a := b)) (List.not_mem_nil (a := b))
      | some u =>
        obtain ⟨rfl, rfl⟩ := only b u z
        have now := (ok' _ _ (un.frzs _ _ _ z)).1
        rw [ha] at e
        injection e with e
        rw [← e]
        exact now
theorem walk_at_law {l : PySem.W.OpenLaw} {k : Nat} {q : Program} {loose : List Str} {XP : (Str → Option Value) → Heap → Prop} {YP : World → Heap → Prop} {d : DefRec} {K : Params → PySem.W.Frag} {sp : PySem.W.Frag → Sp} {x : Str}
    (hn : l.most = some 63) (hdf : d.params.defaults = []) (hr : Room k callerA) (hY : ∀ (w : World) (h : Heap), YP w h → (K w.params).In h)
    (F : ∀ (w : World) (mg : Str → Option Value) (fa : Addr) (h : Heap), (K w.params).In h → h.Ns mainGlobals mg → mg d.name = some (.ref fa) →
      ∃ fd : FuncData, (∀ (s : Shared) (u : Value), BindsTo s fd ⟨[u], []⟩ [(x, u)]) ∧ ∀ base : Heap, (K w.params).In base → base.Ns mainGlobals mg → FnG l.prog w (K w.params) mg base k fa fd [x] (sp (K w.params)))
    (hsp : ∀ (K : PySem.W.Frag) (H : Hp) (a : Addr) (ns : List Int), ns.length ≤ 63 → SqL K H a (ns.map V.int) → sp K [.ref a] H (fun v _ => v = .bl true) E0) :
    PySem.W.WalkO q loose XP YP l.row.toRowW d [] (fun f vs => PySem.call f vs) := by
  refine Att.attach_call hn hdf ?_
  intro w s₀ s₁ mg mb fa o pm cd doc a vs ns G Y ho hd hcd hmg hobj hints hlen hg
  obtain ⟨fd, bind, each⟩ := F w mg fa _ (hY w _ Y) G.T.g hmg
  exact law_at (hY w _ Y) G.T.g G.T.b G.T.builtins G.T.nolimit hg hobj hints (Nat.le_trans hlen (by decide)) hr each bind fun H sq => hsp (K w.params) H a ns hlen sq
end Sm

set_option Elab.async false
set_option linter.all false
set_option maxRecDepth 100000
set_option maxHeartbeats 4000000
namespace Sm
open PySem PySem.Spec PyProof.Rows L2
section
variable {P : Program} {w : World} {K : PySem.W.Frag} {mg : Str → Option Value} {base : Heap}
def Df (K : PySem.W.Frag) (mg : Str → Option Value) (x : Str) (st : Stmt) (ps : List Str) : Prop :=
  ∃ (f : Addr) (fd : FuncData), Fun K x x st f fd ∧ mg x = some (.ref f) ∧ Binds K fd ps []
def Cal (P : Program) (w : World) (K : PySem.W.Frag) (mg : Str → Option Value) (base : Heap) (x : Str) (ps : List Str) (k : Nat) (sp : Sp) : Prop :=
  ∃ (f : Addr) (fd : FuncData), FnOk P w K mg base CX0 k f fd ps sp ∧ mg x = some (.ref f) ∧ PySem.W.keepIn K (.ref f) = true ∧ Binds K fd ps []
theorem Df.cal {x : Str} {st : Stmt} {N ps : List Str} {k : Nat} {sp : Sp} (D : Df K mg x st ps) (S : FnScope N ps (defScope st)) (len : ∀ vs H Q E, sp vs H Q E → vs.length = ps.length)
    (hbody : ∀ (f : Addr) (cdv : Value) (A : Around) (outer : List Env) (s : Shared) (H : Hp) (vs : List V) (Q : VK) (E : XK), Room k (A.deeper (envOfC x (defScope st) s.heap.objs.size f cdv)) → sp vs H Q E →
      ∃ t, PSs (cxOf CX0 P w K mg base N x (defScope st) f cdv A outer s H E).nox (defBody st) t ∧ t { nx := fun _ H' => Q .non H', rt := Q } (start N vs) H) : Cal P w K mg base x ps (k + 1) sp := by
  obtain ⟨f, fd, F, m, b⟩ := D
  exact ⟨f, fd, F.ok S len (fun cdv A outer s H vs Q E hr h => hbody f cdv A outer s H vs Q E hr h), m, F.kp, b⟩
theorem same_upd {H : Hp} {p : Addr} {o : HO} (h : H p = none) : Same H (upd H p o) := fun b x e => by
  rw [upd_ne (ne_of_none e h)]
  exact e
theorem iteP {p A B : Prop} [Decidable p] (h : p) (a : A) : if decide p = true then A else B := by
  rw [decide_eq_true h]
  exact iteT a
theorem iteN {p A B : Prop} [Decidable p] (h : ¬ p) (b : B) : if decide p = true then A else B := by
  rw [decide_eq_false h]
  exact iteF b
theorem iteNP {p A B : Prop} [Decidable p] (h : p) (b : B) : if (!decide p) = true then A else B := by
  rw [decide_eq_true h]
  exact iteF b
theorem iteNN {p A B : Prop} [Decidable p] (h : ¬ p) (a : A) : if (!decide p) = true then A else B := by
  rw [decide_eq_false h]
  exact iteT a
theorem ite3 {p A B : Prop} [Decidable p] (h1 : p → A) (h2 : ¬ p → B) : if decide p = true then A else B := by
  by_cases h : p
  · exact iteP h (h1 h)
  · exact iteN h (h2 h)
theorem fmod_pos {a b : Int} (h : 0 < b) : a.fmod b = a % b := Int.fmod_eq_emod_of_nonneg a (by omega)
end
/-! ### the deck -/
structure Deck (H : Hp) (p l : Addr) (n : Int) : Prop where
  hp : H p = some (.lst [.ref l, .int n])
  hl : ∃ cells : List Int, H l = some (.lst (cells.map V.int)) ∧ (∀ c ∈ cells, 0 ≤ c) ∧ cells.length ≤ 63
theorem deck_ne {l : Addr} {n : Int} {cells : List Int} : HO.lst [.ref l, .int n] ≠ HO.lst (cells.map V.int) := by
  intro q
  injection q with q
  cases cells with
  | nil => cases q
  | cons c r => cases (List.cons.inj q).1
/-- all but the deck is as it was -/
def Fr (p l : Addr) (H H' : Hp) : Prop := ∀ b o, b ≠ p → b ≠ l → H b = some o → H' b = some o
theorem Fr.trans {p l : Addr} {H H1 H2 : Hp} (a : Fr p l H H1) (b : Fr p l H1 H2) : Fr p l H H2 := fun c o h1 h2 h => b c o h1 h2 (a c o h1 h2 h)
theorem Same.fr {p l : Addr} {H H' : Hp} (s : Same H H') : Fr p l H H' := fun b o _ _ h => s b o h
theorem Deck.same {H H' : Hp} {p l : Addr} {n : Int} (D : Deck H p l n) (s : Same H H') : Deck H' p l n := by
  obtain ⟨cells, hl, hc⟩ := D.hl
  exact ⟨s _ _ D.hp, cells, s _ _ hl, hc⟩
theorem Fr.tup {H H' : Hp} {p l b : Addr} {n : Int} {xs : List V} (f : Fr p l H H') (D : Deck H p l n) (h : H b = some (.tup xs)) : H' b = some (.tup xs) := by
  obtain ⟨cells, hl, hc⟩ := D.hl
  exact f b _ (ne_of h D.hp (by intro q; cases q)) (ne_of h hl (by intro q; cases q)) h
def sp_l_deck (K : PySem.W.Frag) : Sp := fun vs H Q _ => ∃ (a : Addr) (ns : List Int), vs = [.ref a] ∧ SqL K H a (ns.map V.int) ∧ ns.length ≤ 63 ∧ ∀ H' p l, Same H H' → Deck H' p l 0 → Q (.ref p) H'
def sp_l_draw (K : PySem.W.Frag) : Sp := fun vs H Q _ => ∃ (p l : Addr) (n m : Int), vs = [.ref p, .int m] ∧ Deck H p l n ∧ 0 ≤ n ∧ n ≤ 1000000 ∧ 0 < m ∧ m ≤ 1000000000000000000000000000000000000000000000000000000000000 ∧
  ∀ r H', 0 ≤ r → r < m → Fr p l H H' → Deck H' p l (n + 1) → Q (.int r) H'
def sp_l_one (K : PySem.W.Frag) : Sp := fun vs H Q _ => ∃ (p l b : Addr) (n : Int) (xs : List V), vs = [.ref p, .ref b] ∧ Deck H p l n ∧ 0 ≤ n ∧ n ≤ 1000000 ∧ H b = some (.lst xs) ∧ b ≠ p ∧ b ≠ l ∧ 0 < xs.length ∧ xs.length ≤ 1000 ∧
  ∀ x H', x ∈ xs → Fr p l H H' → Deck H' p l (n + 1) → Q x H'
theorem cut63 {ns : List Int} (h : ns.length ≤ 63) : cutV (ns.map V.int) none (some 63) = ns.map V.int := by
  unfold cutV
  rw [HT.sIx_none, show HT.sIx (ns.map V.int).length (ns.map V.int).length (some 63) = min 63 (ns.map V.int).length from HT.sIx_nat _ _ 63]
  rw [List.length_map, Nat.min_eq_right h, List.drop_zero]
  exact List.take_of_length_le (by rw [List.length_map]; omega)
def absI (n : Int) : Int := if n < 0 then -n else n
theorem absI_pos (n : Int) : 0 ≤ absI n := by
  unfold absI
  split <;> omega
theorem div_draw {c m : Int} (h0 : 0 < m) (h : m ≤ 1000000000000000000000000000000000000000000000000000000000000) : CDivW c m :=
  wide_div (b := 300) h0 (by omega) (by decide) (by decide)
theorem cut_all {xs : List V} {n : Nat} : cutV xs none (some (n : Int)) = xs.take n := by
  unfold cutV
  rw [HT.sIx_none, HT.sIx_nat, List.drop_zero, Nat.sub_zero]
  rcases Nat.le_total n xs.length with h | h
  · rw [Nat.min_eq_left h]
  · rw [Nat.min_eq_right h, List.take_length, List.take_of_length_le h]
theorem ne_new {H : Hp} {p b : Addr} {o : HO} (h : H p = some o) (n : H b = none) : b ≠ p := (ne_of_none h n).symm
/-- what the deck's second list is not -/
theorem Deck.lne {H : Hp} {p l b : Addr} {n : Int} (D : Deck H p l n) (h : H b = none) : b ≠ p ∧ b ≠ l := by
  obtain ⟨cells, hl, hc⟩ := D.hl
  exact ⟨ne_new D.hp h, ne_new hl h⟩
section
variable {X : Cx}
/-- repr of an int or None -/
theorem call_repr_some : CallR X (.builtin "repr") (fun xs H Q => (∃ i, xs = [.int i] ∧ i.natAbs.log2 < 1920 ∧ Q (.str (toString i)) H) ∨ (xs = [.non] ∧ Q (.str "None") H)) := by
  intro pins s σ H xs us Q I r h
  rcases h with ⟨i, rfl, hz, q⟩ | ⟨rfl, q⟩
  · obtain ⟨u, rfl, t, rfl⟩ := vals1 r
    exact PySem.P.repr_of_int hz ⟨.str _, H, I.tok _, ⟨_, rfl⟩, q⟩
  · obtain ⟨u, rfl, rfl⟩ := vals1 r
    exact PySem.P.repr_of_none ⟨.str _, H, I.tok _, ⟨_, rfl⟩, q⟩
def dataI (ns : List Int) : PyData := .list (ns.map PyData.int)
theorem dp_ints {K : PySem.W.Frag} {H : Hp} : ∀ ns : List Int, DpAll K H (ns.map V.int) (ns.map PyData.int)
  | [] => .nil
  | n :: ns => .cons (.int n) (dp_ints ns)
theorem showable_ints : ∀ {ns : List Int}, (∀ n ∈ ns, n.natAbs.log2 < 1920) → PyData.showableAll (ns.map PyData.int) = true
  | [], _ => rfl
  | n :: ns, h => by
    have a := h n (List.mem_cons_self ..)
    have b := showable_ints (ns := ns) fun m hm => h m (List.mem_cons_of_mem _ hm)
    simp only [List.map_cons, PyData.showableAll, PyData.showable, decide_eq_true a, b, Bool.and_self]
theorem hasDict_ints : ∀ ns : List Int, PyData.hasDictAll (ns.map PyData.int) = false
  | [] => rfl
  | n :: ns => by
    simp only [List.map_cons, PyData.hasDictAll, PyData.hasDict, hasDict_ints ns, Bool.or_self]
theorem depth_ints : ∀ ns : List Int, PyData.depthAll (ns.map PyData.int) ≤ 1
  | [] => by simp [PyData.depthAll]
  | n :: ns => by
    have := depth_ints ns
    simp only [List.map_cons, PyData.depthAll, PyData.depth]
    omega
theorem shown_ints : ∀ {ns : List Int}, (∀ n ∈ ns, n.natAbs.log2 < 1920) → ((PyData.shownAll (ns.map PyData.int)).map (·.length)).sum ≤ 1921 * ns.length ∧ (PyData.shownAll (ns.map PyData.int)).length = ns.length
  | [], _ => by simp [PyData.shownAll]
  | n :: ns, h => by
    have a := PyProof.Rows.int_text_len_1921 (h n (List.mem_cons_self ..))
    obtain ⟨b, c⟩ := shown_ints (ns := ns) fun m hm => h m (List.mem_cons_of_mem _ hm)
    simp only [List.map_cons, PyData.shownAll, PyData.shown, List.sum_cons, List.length_cons]
    omega
/-- repr of a list of ints -/
theorem call_repr_ints (gu : X.A.guards = some []) (room : ∃ k, Room k X.A) : CallR X (.builtin "repr") (fun xs H Q => ∃ a ns, xs = [.ref a] ∧ SqL X.K H a (ns.map V.int) ∧ ns.length ≤ 5000 ∧ (∀ n ∈ ns, n.natAbs.log2 < 1920) ∧ Q (.str (dataI ns).shown) H) := by
  intro pins s σ H xs us Q I r h
  obtain ⟨a, ns, rfl, hS, len, small, q⟩ := h
  refine call_repr_data gu room pins s σ H _ us Q I r ⟨a, dataI ns, rfl, .lst hS (dp_ints ns), ?_, ?_, ?_, ?_, q⟩
  · unfold dataI
    simp only [PyData.showable, showable_ints small]
  · unfold dataI
    simp only [PyData.hasDict, hasDict_ints]
  · have := depth_ints ns
    unfold dataI
    simp only [PyData.depth]
    omega
  · obtain ⟨s1, s2⟩ := shown_ints small
    have := listText_len_le (PyData.shownAll (ns.map PyData.int))
    unfold dataI
    simp only [PyData.shown]
    rw [sizeLine_eq]
    omega
end
end Sm

set_option maxHeartbeats 4000000
namespace Sm
/-! rules: a table that repeats -/
def vl (T : List Int) (p : Nat) (r : Int) (x : Nat) : Int :=
  if x < T.length then T.getD x 0 else T.getD (x - ((x - T.length) / p + 1) * p) 0 + (((x - T.length) / p + 1 : Nat) : Int) * r
structure RuleOk (T : List Int) (p : Nat) (r : Int) : Prop where
  p0 : 0 < p
  p1 : p ≤ T.length
  r0 : 0 ≤ r
  nn : ∀ i, i < T.length → 0 ≤ T.getD i 0
  mono : ∀ i, i + 1 < T.length → T.getD i 0 ≤ T.getD (i + 1) 0
  wrap : T.getD (T.length - 1) 0 ≤ T.getD (T.length - p) 0 + r
theorem place {n p x : Nat} (hp : 0 < p) (hpn : p ≤ n) (h : n ≤ x) : ((x - n) / p + 1) * p ≤ x ∧ n - p ≤ x - ((x - n) / p + 1) * p ∧ x - ((x - n) / p + 1) * p < n := by
  have a := Nat.div_add_mod (x - n) p
  have b := Nat.mod_lt (x - n) hp
  have c : ((x - n) / p + 1) * p = p * ((x - n) / p) + p := by rw [Nat.add_mul, Nat.one_mul, Nat.mul_comm]
  omega
theorem vl_lt {T : List Int} {p : Nat} {r : Int} {x : Nat} (h : x < T.length) : vl T p r x = T.getD x 0 := if_pos h
theorem vl_step {T : List Int} {p : Nat} {r : Int} {x : Nat} (hp : 0 < p) (hpn : p ≤ T.length) (h : T.length ≤ x) : vl T p r x = vl T p r (x - p) + r := by
  by_cases q : x - p < T.length
  · have e : (x - T.length) / p = 0 := Nat.div_eq_of_lt (by omega)
    rw [vl_lt q]
    unfold vl
    rw [if_neg (by omega), e]
    simp
  · have e : (x - T.length) / p = (x - p - T.length) / p + 1 := by
      rw [Nat.div_eq_sub_div hp (by omega), show x - T.length - p = x - p - T.length by omega]
    unfold vl
    rw [if_neg (by omega), if_neg q, e]
    have i : x - ((x - p - T.length) / p + 1 + 1) * p = x - p - ((x - p - T.length) / p + 1) * p := by
      rw [Nat.add_mul ((x - p - T.length) / p + 1) 1 p, Nat.one_mul]
      omega
    rw [i]
    have k : (((x - p - T.length) / p + 1 + 1 : Nat) : Int) * r = (((x - p - T.length) / p + 1 : Nat) : Int) * r + r := by
      rw [Int.natCast_add ((x - p - T.length) / p + 1) 1, Int.add_mul]
      simp
    rw [k, Int.add_assoc]
theorem vl_add {T : List Int} {p : Nat} {r : Int} {x : Nat} (hp : 0 < p) (hpn : p ≤ T.length) (h : T.length - p ≤ x) : vl T p r (x + p) = vl T p r x + r := by
  rw [vl_step hp hpn (by omega), Nat.add_sub_cancel]
theorem vl_addk {T : List Int} {p : Nat} {r : Int} {x : Nat} (hp : 0 < p) (hpn : p ≤ T.length) (h : T.length - p ≤ x) : ∀ k : Nat, vl T p r (x + k * p) = vl T p r x + (k : Int) * r
  | 0 => by simp
  | k + 1 => by
    have ih := vl_addk (r := r) hp hpn h k
    rw [show x + (k + 1) * p = x + k * p + p by rw [Nat.add_mul, Nat.one_mul, Nat.add_assoc], vl_add hp hpn (by omega), ih]
    rw [Int.natCast_add, Int.add_mul]
    simp
    omega
section
variable {T : List Int} {p : Nat} {r : Int}
theorem RuleOk.up (o : RuleOk T p r) : ∀ x, vl T p r x ≤ vl T p r (x + 1) := by
  intro x
  induction x using Nat.strongRecOn with
  | _ x ih =>
    have p0 := o.p0
    have p1 := o.p1
    by_cases a : x + 1 < T.length
    · rw [vl_lt a, vl_lt (by omega)]
      exact o.mono x a
    · by_cases b : x < T.length
      · rw [vl_lt b, vl_step p0 p1 (by omega), vl_lt (by omega)]
        have w := o.wrap
        rw [show x = T.length - 1 by omega]
        rw [show T.length - 1 + 1 - p = T.length - p by omega]
        exact w
      · rw [vl_step p0 p1 (by omega), vl_step (x := x + 1) p0 p1 (by omega)]
        have := ih (x - p) (by omega)
        rw [show x - p + 1 = x + 1 - p by omega] at this
        omega
theorem RuleOk.le (o : RuleOk T p r) {x y : Nat} (h : x ≤ y) : vl T p r x ≤ vl T p r y := by
  obtain ⟨k, rfl⟩ := Nat.le.dest h
  induction k with
  | zero => exact Int.le_refl _
  | succ k ih => exact Int.le_trans (ih (by omega)) (o.up _)
theorem RuleOk.pos (o : RuleOk T p r) (x : Nat) : 0 ≤ vl T p r x := by
  have a := o.le (Nat.zero_le x)
  have p0 := o.p0
  have p1 := o.p1
  rw [vl_lt (x := 0) (by omega)] at a
  have := o.nn 0 (by omega)
  omega
theorem RuleOk.row (o : RuleOk T p r) {i j : Nat} (h : i ≤ j) (hj : j < T.length) : T.getD i 0 ≤ T.getD j 0 := by
  have a := o.le h
  rw [vl_lt hj, vl_lt (by omega)] at a
  exact a
/-- the values of the last period repeat by s, increased by c -/
def Rep (T : List Int) (p : Nat) (r : Int) (s : Nat) (c : Int) : Prop := ∀ i, T.length - p ≤ i → i < T.length → vl T p r (i + s) = T.getD i 0 + c
theorem rep_all {s : Nat} {c : Int} (o : RuleOk T p r) (h : Rep T p r s c) : ∀ y, T.length - p ≤ y → vl T p r (y + s) = vl T p r y + c := by
  intro y
  induction y using Nat.strongRecOn with
  | _ y ih =>
    intro hy
    have p0 := o.p0
    have p1 := o.p1
    by_cases a : y < T.length
    · rw [vl_lt a]
      exact h y hy a
    · have e := ih (y - p) (by omega) (by omega)
      rw [vl_step (x := y) p0 p1 (by omega), vl_step (x := y + s) p0 p1 (by omega), show y + s - p = y - p + s by omega, e]
      omega
theorem rep_self (o : RuleOk T p r) : Rep T p r p r := fun i h1 h2 => by
  rw [vl_add o.p0 o.p1 h1, vl_lt h2]
theorem getD_take {n i : Nat} (h : i < n) : (T.take n).getD i 0 = T.getD i 0 := by
  rw [List.getD_eq_getElem?_getD, List.getD_eq_getElem?_getD, List.getElem?_take_of_lt h]
/-- the table cut: still a rule, with the same values -/
theorem cut_ok {a s : Nat} {c : Int} (o : RuleOk T p r) (hs : 0 < s) (ha : a + s ≤ T.length) (c0 : 0 ≤ c) (h : ∀ y, a ≤ y → vl T p r (y + s) = vl T p r y + c) : RuleOk (T.take (a + s)) s c := by
  have len : (T.take (a + s)).length = a + s := by rw [List.length_take]; omega
  refine ⟨hs, by omega, c0, fun i hi => ?_, fun i hi => ?_, ?_⟩
  · rw [getD_take (by omega)]
    exact o.nn i (by omega)
  · rw [getD_take (by omega), getD_take (by omega)]
    exact o.mono i (by omega)
  · rw [len, getD_take (by omega), getD_take (by omega), show a + s - s = a by omega]
    have e := h a (Nat.le_refl _)
    have u := o.up (a + s - 1)
    rw [show a + s - 1 + 1 = a + s by omega, e, vl_lt (by omega), vl_lt (by omega)] at u
    exact u
theorem cut_vl {a s : Nat} {c : Int} (hs : 0 < s) (ha : a + s ≤ T.length) (h : ∀ y, a ≤ y → vl T p r (y + s) = vl T p r y + c) : ∀ x, vl (T.take (a + s)) s c x = vl T p r x := by
  have len : (T.take (a + s)).length = a + s := by rw [List.length_take]; omega
  intro x
  induction x using Nat.strongRecOn with
  | _ x ih =>
    by_cases q : x < a + s
    · rw [vl_lt (by omega), vl_lt (by omega), getD_take q]
    · rw [vl_step hs (by omega) (by omega), ih (x - s) (by omega), ← h (x - s) (by omega), show x - s + s = x by omega]
/-- the least amount, or none -/
def IsLf (T : List Int) (p : Nat) (r : Int) (y : Int) : Option Nat → Prop
  | none => r = 0 ∧ T.getD (T.length - 1) 0 < y
  | some x => y ≤ vl T p r x ∧ ∀ z, z < x → vl T p r z < y
theorem lf_near {y : Int} {i : Nat} (hi : i < T.length) (h1 : y ≤ T.getD i 0) (h2 : ∀ j, j < i → T.getD j 0 < y) : IsLf T p r y (some i) :=
  ⟨by rw [vl_lt hi]; exact h1, fun z hz => by rw [vl_lt (by omega)]; exact h2 z hz⟩
theorem lf_far {y : Int} {i k : Nat} (o : RuleOk T p r) (k0 : 0 < k) (hk : T.getD (T.length - 1) 0 + ((k : Int) - 1) * r < y) (h0 : T.length - p ≤ i) (hi : i < T.length) (h1 : y - (k : Int) * r ≤ T.getD i 0)
    (h2 : ∀ j, T.length - p ≤ j → j < i → T.getD j 0 < y - (k : Int) * r) : IsLf T p r y (some (i + k * p)) := by
  have p0 := o.p0
  have p1 := o.p1
  refine ⟨?_, fun z hz => ?_⟩
  · rw [vl_addk p0 p1 h0, vl_lt hi]
    omega
  · have kp : p ≤ k * p := Nat.le_mul_of_pos_left p k0
    refine Int.lt_of_le_of_lt (o.le (show z ≤ i + k * p - 1 by omega)) ?_
    by_cases q : i = T.length - p
    · obtain ⟨k, rfl⟩ : ∃ j, k = j + 1 := ⟨k - 1, by omega⟩
      have e : i + (k + 1) * p - 1 = T.length - 1 + k * p := by
        rw [Nat.add_mul, Nat.one_mul] at kp ⊢
        omega
      rw [e, vl_addk p0 p1 (by omega), vl_lt (by omega)]
      have c : ((k + 1 : Nat) : Int) - 1 = (k : Int) := by omega
      rw [c] at hk
      exact hk
    · rw [show i + k * p - 1 = i - 1 + k * p by omega, vl_addk p0 p1 (by omega), vl_lt (by omega)]
      have := h2 (i - 1) (by omega) (by omega)
      omega
theorem lf_one {y : Int} {a b : Option Nat} (o : RuleOk T p r) (ha : IsLf T p r y a) (hb : IsLf T p r y b) : a = b := by
  have no : ∀ {x : Nat}, IsLf T p r y none → IsLf T p r y (some x) → False := by
    rintro x ⟨h1, h2⟩ ⟨h3, _⟩
    have p0 := o.p0
    have p1 := o.p1
    have all : ∀ x, vl T p r x ≤ T.getD (T.length - 1) 0 := by
      intro x
      induction x using Nat.strongRecOn with
      | _ x ih =>
        by_cases q : x < T.length
        · rw [vl_lt q]
          exact o.row (by omega) (by omega)
        · rw [vl_step p0 p1 (by omega)]
          have := ih (x - p) (by omega)
          omega
    have := all x
    omega
  match a, b, ha, hb with
  | none, none, _, _ => rfl
  | none, some x, ha, hb => exact (no ha hb).elim
  | some x, none, ha, hb => exact (no hb ha).elim
  | some x, some z, ⟨h1, h2⟩, ⟨h3, h4⟩ =>
    rcases Nat.lt_trichotomy x z with q | q | q
    · have := h4 x q
      omega
    · rw [q]
    · have := h2 z q
      omega
end
theorem div_cast {x n p : Nat} (h : n ≤ x) : ((x : Int) - (n : Int)) / (p : Int) + 1 = (((x - n) / p + 1 : Nat) : Int) := by
  rw [← Int.natCast_sub h]
  rfl
theorem ceil_lo {a r : Int} (hr : 0 < r) : a ≤ (a + r - 1) / r * r ∧ ((a + r - 1) / r - 1) * r < a := by
  have h1 := Int.mul_ediv_add_emod (a + r - 1) r
  have h2 := Int.emod_nonneg (a + r - 1) (show r ≠ 0 by omega)
  have h3 := Int.emod_lt_of_pos (a + r - 1) hr
  have e : (a + r - 1) / r * r = r * ((a + r - 1) / r) := Int.mul_comm _ _
  have e2 : ((a + r - 1) / r - 1) * r = r * ((a + r - 1) / r) - r := by rw [Int.sub_mul, Int.mul_comm]; omega
  omega
end Sm

set_option maxHeartbeats 4000000
namespace Sm
structure RuleW (T : List Int) (p : Nat) (r : Int) : Prop where
  p0 : 0 < p
  p1 : p ≤ T.length
  r0 : 0 ≤ r
theorem RuleOk.w {T : List Int} {p : Nat} {r : Int} (o : RuleOk T p r) : RuleW T p r := ⟨o.p0, o.p1, o.r0⟩
section
variable {T : List Int} {p : Nat} {r : Int}
theorem rep_allW {s : Nat} {c : Int} (o : RuleW T p r) (h : Rep T p r s c) : ∀ y, T.length - p ≤ y → vl T p r (y + s) = vl T p r y + c := by
  intro y
  induction y using Nat.strongRecOn with
  | _ y ih =>
    intro hy
    have p0 := o.p0
    have p1 := o.p1
    by_cases a : y < T.length
    · rw [vl_lt a]
      exact h y hy a
    · have e := ih (y - p) (by omega) (by omega)
      rw [vl_step (x := y) p0 p1 (by omega), vl_step (x := y + s) p0 p1 (by omega), show y + s - p = y - p + s by omega, e]
      omega
theorem rep_selfW (o : RuleW T p r) : Rep T p r p r := fun i h1 h2 => by
  rw [vl_add o.p0 o.p1 h1, vl_lt h2]
/-- a weak rule that does not fall within its table and behind it is a rule -/
theorem W_ok (o : RuleW T p r) (nn : ∀ i, i < T.length → 0 ≤ T.getD i 0) (h : ∀ x, x < T.length → T.getD x 0 ≤ vl T p r (x + 1)) : RuleOk T p r := by
  have p0 := o.p0
  have p1 := o.p1
  refine ⟨p0, p1, o.r0, nn, fun i hi => ?_, ?_⟩
  · have := h i (by omega)
    rw [vl_lt hi] at this
    exact this
  · have := h (T.length - 1) (by omega)
    rw [vl_step p0 p1 (by omega), show T.length - 1 + 1 - p = T.length - p by omega, vl_lt (by omega)] at this
    exact this
end
section
variable {T1 T2 : List Int} {p1 p2 : Nat} {r1 r2 : Int}
def gp (T1 : List Int) (p1 : Nat) (r1 : Int) (T2 : List Int) (p2 : Nat) (r2 : Int) (x : Nat) : Int := vl T1 p1 r1 x - vl T2 p2 r2 x
/-- the first amount at which the one is above, or none -/
def IsFst (T1 : List Int) (p1 : Nat) (r1 : Int) (T2 : List Int) (p2 : Nat) (r2 : Int) : Option Nat → Prop
  | none => ∀ x, gp T1 p1 r1 T2 p2 r2 x ≤ 0
  | some x => 0 < gp T1 p1 r1 T2 p2 r2 x ∧ ∀ z, z < x → gp T1 p1 r1 T2 p2 r2 z ≤ 0
theorem fst_one {a b : Option Nat} (ha : IsFst T1 p1 r1 T2 p2 r2 a) (hb : IsFst T1 p1 r1 T2 p2 r2 b) : a = b := by
  match a, b, ha, hb with
  | none, none, _, _ => rfl
  | none, some x, ha, hb =>
    have := ha x
    have := hb.1
    omega
  | some x, none, ha, hb =>
    have := hb x
    have := ha.1
    omega
  | some x, some z, ⟨h1, h2⟩, ⟨h3, h4⟩ =>
    rcases Nat.lt_trichotomy x z with q | q | q
    · have := h4 x q
      omega
    · rw [q]
    · have := h2 z q
      omega
/-- by a common turn t = a p1 = b p2 the gap grows by g, from a start of both on -/
theorem gp_turn {B a b : Nat} (w1 : RuleW T1 p1 r1) (w2 : RuleW T2 p2 r2) (hB1 : T1.length - p1 ≤ B) (hB2 : T2.length - p2 ≤ B) (e : a * p1 = b * p2) {x : Nat} (hx : B ≤ x) :
    gp T1 p1 r1 T2 p2 r2 (x + a * p1) = gp T1 p1 r1 T2 p2 r2 x + ((a : Int) * r1 - (b : Int) * r2) := by
  unfold gp
  rw [vl_addk w1.p0 w1.p1 (by omega) a, e, vl_addk w2.p0 w2.p1 (by omega) b]
  omega
theorem gp_turns {B t : Nat} {g : Int} (h : ∀ x, B ≤ x → gp T1 p1 r1 T2 p2 r2 (x + t) = gp T1 p1 r1 T2 p2 r2 x + g) {x : Nat} (hx : B ≤ x) : ∀ k : Nat, gp T1 p1 r1 T2 p2 r2 (x + k * t) = gp T1 p1 r1 T2 p2 r2 x + (k : Int) * g
  | 0 => by simp
  | k + 1 => by
    have ih := gp_turns h hx k
    rw [show x + (k + 1) * t = x + k * t + t by rw [Nat.add_mul, Nat.one_mul, Nat.add_assoc], h _ (by omega), ih, Int.natCast_add, Int.add_mul]
    simp
    omega
theorem split_turn {B t z : Nat} (t0 : 0 < t) (hz : B ≤ z) : ∃ x k, B ≤ x ∧ x < B + t ∧ z = x + k * t := by
  have a := Nat.div_add_mod (z - B) t
  have b := Nat.mod_lt (z - B) t0
  refine ⟨B + (z - B) % t, (z - B) / t, by omega, by omega, ?_⟩
  rw [Nat.mul_comm]
  omega
theorem none_of {B t : Nat} {g : Int} (t0 : 0 < t) (h : ∀ x, B ≤ x → gp T1 p1 r1 T2 p2 r2 (x + t) = gp T1 p1 r1 T2 p2 r2 x + g) (hg : g ≤ 0) (early : ∀ x, x < B + t → gp T1 p1 r1 T2 p2 r2 x ≤ 0) : IsFst T1 p1 r1 T2 p2 r2 none := by
  intro z
  by_cases q : z < B
  · exact early z (by omega)
  · obtain ⟨x, k, h1, h2, rfl⟩ := split_turn t0 (show B ≤ z by omega)
    rw [gp_turns h h1 k]
    have := early x h2
    have : (k : Int) * g ≤ 0 := Int.mul_nonpos_of_nonneg_of_nonpos (by omega) hg
    omega
/-- the least of the first amounts of all rests -/
theorem some_of {B t m : Nat} {g : Int} (t0 : 0 < t) (h : ∀ x, B ≤ x → gp T1 p1 r1 T2 p2 r2 (x + t) = gp T1 p1 r1 T2 p2 r2 x + g) (hg : 0 < g) (early : ∀ x, x < B + t → gp T1 p1 r1 T2 p2 r2 x ≤ 0)
    (hm : ∃ x, B ≤ x ∧ x < B + t ∧ (m : Int) = (x : Int) + (t : Int) * ((-gp T1 p1 r1 T2 p2 r2 x) / g + 1)) (least : ∀ x, B ≤ x → x < B + t → (m : Int) ≤ (x : Int) + (t : Int) * ((-gp T1 p1 r1 T2 p2 r2 x) / g + 1)) : IsFst T1 p1 r1 T2 p2 r2 (some m) := by
  constructor
  · obtain ⟨x, h1, h2, e⟩ := hm
    have ex := early x h2
    have q0 : 0 ≤ (-gp T1 p1 r1 T2 p2 r2 x) / g := Int.ediv_nonneg (by omega) (by omega)
    obtain ⟨k, hk⟩ : ∃ k : Nat, (-gp T1 p1 r1 T2 p2 r2 x) / g = (k : Int) := ⟨_, (Int.toNat_of_nonneg q0).symm⟩
    have e2 : m = x + (k + 1) * t := by
      rw [hk] at e
      have : ((x + (k + 1) * t : Nat) : Int) = (x : Int) + (t : Int) * ((k : Int) + 1) := by
        rw [Int.natCast_add, Int.natCast_mul, Int.mul_comm]
        rfl
      omega
    rw [e2, gp_turns h h1]
    have d1 := Int.mul_ediv_add_emod (-gp T1 p1 r1 T2 p2 r2 x) g
    have d2 := Int.emod_lt_of_pos (-gp T1 p1 r1 T2 p2 r2 x) hg
    rw [hk] at d1
    have e3 : ((k + 1 : Nat) : Int) * g = g * (k : Int) + g := by rw [Int.natCast_add, Int.add_mul, Int.mul_comm]; simp
    omega
  · intro z hz
    by_cases q : z < B
    · exact early z (by omega)
    · obtain ⟨x, k, h1, h2, rfl⟩ := split_turn t0 (show B ≤ z by omega)
      rcases Int.lt_or_le 0 (gp T1 p1 r1 T2 p2 r2 (x + k * t)) with w | w
      · exfalso
        have l := least x h1 h2
        rw [gp_turns h h1 k] at w
        have d1 := Int.mul_ediv_add_emod (-gp T1 p1 r1 T2 p2 r2 x) g
        have d2 := Int.emod_nonneg (-gp T1 p1 r1 T2 p2 r2 x) (show g ≠ 0 by omega)
        have lt : (-gp T1 p1 r1 T2 p2 r2 x) / g < (k : Int) := by
          rcases Int.lt_or_le ((-gp T1 p1 r1 T2 p2 r2 x) / g) (k : Int) with c | c
          · exact c
          · have := Int.mul_le_mul_of_nonneg_left c (show 0 ≤ g by omega)
            rw [Int.mul_comm g (k : Int)] at this
            omega
        have le := Int.mul_le_mul_of_nonneg_left (show (-gp T1 p1 r1 T2 p2 r2 x) / g + 1 ≤ (k : Int) by omega) (show 0 ≤ (t : Int) by omega)
        have c1 : ((k * t : Nat) : Int) = (t : Int) * (k : Int) := by rw [Int.natCast_mul, Int.mul_comm]
        omega
      · exact w
end
end Sm

set_option maxHeartbeats 4000000
namespace Sm
/-! just one shortest tuple has given values -/
structure Short (T : List Int) (p : Nat) (r : Int) : Prop where
  ok : RuleOk T p r
  turn : ∀ s c, 0 < s → s < p → s ∣ p → ¬ Rep T p r s c
  start : p = T.length ∨ vl T p r (T.length - 1) ≠ T.getD (T.length - p - 1) 0 + r
theorem vl_ge_turn {T : List Int} {p : Nat} {r : Int} (o : RuleOk T p r) {x : Nat} (h : T.length - p ≤ x) (k : Nat) : vl T p r (x + k * p) = vl T p r x + (k : Int) * r := vl_addk o.p0 o.p1 h k
/-- what holds far off holds from the start of the turns on -/
theorem rep_down {T : List Int} {p s A : Nat} {r c : Int} (o : RuleOk T p r) (h : ∀ x, A ≤ x → vl T p r (x + s) = vl T p r x + c) {x : Nat} (hx : T.length - p ≤ x) : vl T p r (x + s) = vl T p r x + c := by
  have p0 := o.p0
  have e1 := vl_ge_turn o (x := x) hx A
  have e2 := vl_ge_turn o (x := x + s) (by omega) A
  have far : A ≤ x + A * p := by
    have : A * 1 ≤ A * p := Nat.mul_le_mul_left A p0
    omega
  have e3 := h _ far
  rw [show x + A * p + s = x + s + A * p by omega] at e3
  omega
/-- two turns have a turn as long as their greatest common divisor -/
theorem gcd_turn {f : Nat → Int} {A : Nat} : ∀ (n p q : Nat), p + q ≤ n → 0 < p → 0 < q → (∃ r, ∀ x, A ≤ x → f (x + p) = f x + r) → (∃ t, ∀ x, A ≤ x → f (x + q) = f x + t) → ∃ c, ∀ x, A ≤ x → f (x + Nat.gcd p q) = f x + c
  | 0, p, q, h, p0, q0, _, _ => by omega
  | n + 1, p, q, h, p0, q0, ⟨r, hr⟩, ⟨t, ht⟩ => by
    rcases Nat.lt_trichotomy p q with l | l | l
    · have g : Nat.gcd p (q - p) = Nat.gcd p q := Nat.gcd_sub_self_right (Nat.le_of_lt l)
      rw [← g]
      refine gcd_turn n p (q - p) (by omega) p0 (by omega) ⟨r, hr⟩ ⟨t - r, fun x hx => ?_⟩
      have e1 := ht x hx
      have e2 := hr (x + (q - p)) (by omega)
      rw [show x + (q - p) + p = x + q by omega] at e2
      omega
    · subst l
      rw [Nat.gcd_self]
      exact ⟨r, hr⟩
    · have g : Nat.gcd (p - q) q = Nat.gcd p q := Nat.gcd_sub_self_left (Nat.le_of_lt l)
      rw [← g]
      refine gcd_turn n (p - q) q (by omega) (by omega) q0 ⟨r - t, fun x hx => ?_⟩ ⟨t, ht⟩
      have e1 := hr x hx
      have e2 := ht (x + (p - q)) (by omega)
      rw [show x + (p - q) + q = x + p by omega] at e2
      omega
theorem short_le {T1 T2 : List Int} {p1 p2 : Nat} {r1 r2 : Int} (s1 : Short T1 p1 r1) (o2 : RuleOk T2 p2 r2) (h : ∀ x, vl T1 p1 r1 x = vl T2 p2 r2 x) : Nat.gcd p1 p2 = p1 := by
  have o1 := s1.ok
  obtain ⟨c, hc⟩ := gcd_turn (f := vl T1 p1 r1) (A := max (T1.length - p1) (T2.length - p2)) _ p1 p2 (Nat.le_refl _) o1.p0 o2.p0 ⟨r1, fun x hx => vl_add o1.p0 o1.p1 (by omega)⟩ ⟨r2, fun x hx => by rw [h, h]; exact vl_add o2.p0 o2.p1 (by omega)⟩
  have g0 : 0 < Nat.gcd p1 p2 := Nat.gcd_pos_of_pos_left _ o1.p0
  have gl : Nat.gcd p1 p2 ≤ p1 := Nat.le_of_dvd o1.p0 (Nat.gcd_dvd_left ..)
  by_cases q : Nat.gcd p1 p2 = p1
  · exact q
  · exact absurd (fun i h1 h2 => by rw [← vl_lt (p := p1) (r := r1) h2]; exact rep_down o1 hc h1) (s1.turn _ c g0 (by omega) (Nat.gcd_dvd_left ..))
theorem short_start {T1 T2 : List Int} {p : Nat} {r : Int} (s1 : Short T1 p r) (s2 : Short T2 p r) (h : ∀ x, vl T1 p r x = vl T2 p r x) : T2.length ≤ T1.length := by
  have o1 := s1.ok
  have o2 := s2.ok
  have p0 := o1.p0
  have l1 := o1.p1
  have l2 := o2.p1
  rcases Nat.lt_or_ge T1.length T2.length with q | q
  · exfalso
    rcases s2.start with e | e
    · omega
    · apply e
      have := vl_add (T := T1) (p := p) (r := r) p0 l1 (x := T2.length - p - 1) (by omega)
      rw [show T2.length - p - 1 + p = T2.length - 1 by omega, h, h, vl_lt (T := T2) (x := T2.length - p - 1) (by omega)] at this
      exact this
  · exact q
/-- just one shortest tuple has given values -/
theorem short_one {T1 T2 : List Int} {p1 p2 : Nat} {r1 r2 : Int} (s1 : Short T1 p1 r1) (s2 : Short T2 p2 r2) (h : ∀ x, vl T1 p1 r1 x = vl T2 p2 r2 x) : T1 = T2 ∧ p1 = p2 ∧ r1 = r2 := by
  have a := short_le s1 s2.ok h
  have b := short_le s2 s1.ok fun x => (h x).symm
  rw [Nat.gcd_comm] at b
  obtain rfl : p1 = p2 := a.symm.trans b
  have o1 := s1.ok
  have o2 := s2.ok
  have e1 := vl_add o1.p0 o1.p1 (r := r1) (x := max (T1.length - p1) (T2.length - p1)) (by omega)
  have e2 := vl_add o2.p0 o2.p1 (r := r2) (x := max (T1.length - p1) (T2.length - p1)) (by omega)
  rw [h, h] at e1
  obtain rfl : r1 = r2 := by omega
  have l : T1.length = T2.length := Nat.le_antisymm (short_start s2 s1 fun x => (h x).symm) (short_start s1 s2 h)
  refine ⟨List.ext_getElem l fun i h1 h2 => ?_, rfl, rfl⟩
  have e := h i
  rw [vl_lt h1, vl_lt h2, List.getD_eq_getElem?_getD, List.getD_eq_getElem?_getD, List.getElem?_eq_getElem h1, List.getElem?_eq_getElem h2] at e
  exact e
theorem rep_slope {T : List Int} {p s : Nat} {r c : Int} (o : RuleOk T p r) (sd : s ∣ p) (h : Rep T p r s c) : r * (s : Int) = c * (p : Int) := by
  obtain ⟨k, rfl⟩ := sd
  have all := rep_all o h
  have up : ∀ n : Nat, vl T (s * k) r (T.length - s * k + n * s) = vl T (s * k) r (T.length - s * k) + (n : Int) * c := by
    intro n
    induction n with
    | zero => simp
    | succ n ih =>
      rw [show T.length - s * k + (n + 1) * s = T.length - s * k + n * s + s by rw [Nat.add_mul]; omega, all _ (by omega), ih, Int.natCast_add, Int.add_mul]
      simp
      omega
  have e1 := up k
  have e2 := vl_add o.p0 o.p1 (r := r) (x := T.length - s * k) (Nat.le_refl _)
  rw [Nat.mul_comm k s, e2] at e1
  have e3 : r = (k : Int) * c := by omega
  rw [e3, Int.natCast_mul, Int.mul_comm (k : Int) c, Int.mul_assoc, Int.mul_comm (k : Int)]
theorem rep_quot {T : List Int} {p s : Nat} {r c : Int} (o : RuleOk T p r) (sd : s ∣ p) (h : Rep T p r s c) : r * (s : Int) / (p : Int) = c ∧ r * (s : Int) % (p : Int) = 0 := by
  have p0 := o.p0
  rw [rep_slope o sd h]
  exact ⟨Int.mul_ediv_cancel _ (by omega), Int.mul_emod_left _ _⟩
theorem cut_short {T : List Int} {p a s : Nat} {r c : Int} (o : RuleOk T p r) (hs : 0 < s) (sd : s ∣ p) (ha : a ≤ T.length - p) (c0 : 0 ≤ c) (h : ∀ y, a ≤ y → vl T p r (y + s) = vl T p r y + c)
    (hm : ∀ s' c', 0 < s' → s' < s → s' ∣ p → ¬ Rep T p r s' c') (st : a = 0 ∨ vl T p r (a - 1 + s) ≠ T.getD (a - 1) 0 + c) : Short (T.take (a + s)) s c := by
  have p1 := o.p1
  have sp : s ≤ p := Nat.le_of_dvd o.p0 sd
  have ok := cut_ok o hs (by omega) c0 h
  have eq := cut_vl (T := T) (p := p) (r := r) hs (show a + s ≤ T.length by omega) h
  have len : (T.take (a + s)).length = a + s := by rw [List.length_take]; omega
  refine ⟨ok, fun s' c' h1 h2 h3 rep => hm s' c' h1 h2 (Nat.dvd_trans h3 sd) fun i g1 g2 => ?_, ?_⟩
  · have all := rep_all ok rep i (by rw [len]; omega)
    rw [eq, eq, vl_lt (T := T) g2] at all
    exact all
  · by_cases z : a = 0
    · left
      rw [len, z, Nat.zero_add]
    · right
      rw [len, eq, show a + s - 1 = a - 1 + s by omega, show a + s - s - 1 = a - 1 by omega, getD_take (by omega)]
      rcases st with q | q
      · exact absurd q z
      · exact q
theorem dvd_of {p i : Nat} (h : (p : Int).fmod (1 + (i : Int)) = 0) : 1 + i ∣ p := by
  rw [Int.fmod_eq_emod_of_nonneg _ (by omega)] at h
  exact Int.natCast_dvd_natCast.mp (Int.dvd_of_emod_eq_zero (b := (p : Int)) (a := ((1 + i : Nat) : Int)) h)
theorem of_dvd {p i : Nat} (h : 1 + i ∣ p) : (p : Int).fmod (1 + (i : Int)) = 0 := by
  rw [Int.fmod_eq_emod_of_nonneg _ (by omega)]
  exact Int.emod_eq_zero_of_dvd (a := ((1 + i : Nat) : Int)) (Int.natCast_dvd_natCast.mpr h)
end Sm

set_option Elab.async false
set_option linter.all false
set_option maxRecDepth 100000
set_option maxHeartbeats 8000000
namespace Sm
open PySem PySem.Spec PyProof.Rows L2
open C8 (pss_cut)
def topS (i : Nat) : Stmt := PySem.Challenge.pw_smallchange_k17_whole_inverses.main.body.getD i (.Pass ⟨0, 0, 0, 0⟩)
structure Txt (mg : Str → Option Value) : Prop where
  n_abs : mg "abs" = none
  n_int : mg "int" = none
  n_len : mg "len" = none
  n_list : mg "list" = none
  n_max : mg "max" = none
  n_range : mg "range" = none
  n_tuple : mg "tuple" = none
  g_gcd : mg "gcd" = some (.builtin "math.gcd")
  g_lcm : mg "lcm" = some (.builtin "math.lcm")
  c_MAX_TOLD : ∃ t, mg "MAX_TOLD" = some (.int 5000 t)
/-! ### rules in the heap -/
def RuleAt (H : Hp) (d : Addr) (T : List Int) (p : Nat) (r : Int) : Prop := ∃ t, H d = some (.tup [.ref t, .int (p : Int), .int r]) ∧ H t = some (.tup (T.map V.int))
theorem RuleAt.same {H H' : Hp} {d : Addr} {T : List Int} {p : Nat} {r : Int} (R : RuleAt H d T p r) (s : Same H H') : RuleAt H' d T p r := by
  obtain ⟨t, h1, h2⟩ := R
  exact ⟨t, s _ _ h1, s _ _ h2⟩
theorem RuleAt.fr {H H' : Hp} {d a l : Addr} {n : Int} {T : List Int} {p : Nat} {r : Int} (R : RuleAt H d T p r) (f : Fr a l H H') (D : Deck H a l n) : RuleAt H' d T p r := by
  obtain ⟨t, h1, h2⟩ := R
  exact ⟨t, f.tup D h1, f.tup D h2⟩
structure RB (T : List Int) (p : Nat) (r : Int) : Prop where
  len : T.length ≤ 30000
  r1 : r ≤ 1000000000000000000
  top : ∀ i, i < T.length → T.getD i 0 ≤ 100000000000000000000
/-- a small one, with bound M -/
structure RS (M : Int) (T : List Int) (p : Nat) (r : Int) : Prop where
  len : T.length ≤ 300
  turn : p ≤ 40
  r1 : r ≤ M
  top : ∀ i, i < T.length → T.getD i 0 ≤ M
theorem RS.rb {M : Int} {T : List Int} {p : Nat} {r : Int} (b : RS M T p r) (h : M ≤ 10000000000000000) : RB T p r := by
  have h1 := b.r1
  have h2 := b.len
  exact ⟨by omega, by omega, fun i hi => by have := b.top i hi; omega⟩
theorem RS.up {M N : Int} {T : List Int} {p : Nat} {r : Int} (b : RS M T p r) (h : M ≤ N) : RS N T p r := by
  have h1 := b.r1
  exact ⟨b.len, b.turn, by omega, fun i hi => by have := b.top i hi; omega⟩
/-- a rule cut shorter -/
structure Cut (T : List Int) (p : Nat) (r : Int) (T' : List Int) (p' : Nat) (r' : Int) : Prop where
  len : T'.length ≤ T.length
  turn : p' ≤ p
  rise : r' ≤ r
  get : ∀ i, i < T'.length → T'.getD i 0 = T.getD i 0
theorem Cut.rs {M : Int} {T T' : List Int} {p p' : Nat} {r r' : Int} (c : Cut T p r T' p' r') (b : RS M T p r) : RS M T' p' r' := by
  have h1 := c.len
  have h2 := c.turn
  have h3 := c.rise
  have b1 := b.len
  have b2 := b.turn
  have b3 := b.r1
  exact ⟨by omega, by omega, by omega, fun i hi => by rw [c.get i hi]; exact b.top i (by omega)⟩
theorem Cut.rb {T T' : List Int} {p p' : Nat} {r r' : Int} (c : Cut T p r T' p' r') (b : RB T p r) : RB T' p' r' := by
  have h1 := c.len
  have h3 := c.rise
  have b1 := b.len
  have b3 := b.r1
  exact ⟨by omega, by omega, fun i hi => by rw [c.get i hi]; exact b.top i (by omega)⟩
theorem get_int {T : List Int} {i : Nat} (h : i < T.length) : (T.map V.int)[i]? = some (.int (T.getD i 0)) := by
  rw [List.getElem?_map, List.getElem?_eq_getElem h, List.getD_eq_getElem?_getD, List.getElem?_eq_getElem h]
  rfl
theorem atI_neg1 {xs : List V} {v : V} (h0 : 0 < xs.length) (h : xs[xs.length - 1]? = some v) : atI xs (-1) = some v := by
  unfold atI ixN
  rw [if_neg (by decide), if_pos (by omega), show ((-1 : Int) + (xs.length : Int)).toNat = xs.length - 1 by omega]
  exact h
theorem last_int {T : List Int} (h : 0 < T.length) : atI (T.map V.int) (-1) = some (.int (T.getD (T.length - 1) 0)) :=
  atI_neg1 (by rw [List.length_map]; exact h) (by rw [List.length_map]; exact get_int (by omega))
theorem pick4 {a b c d r : Int} (h0 : 0 ≤ r) (h1 : r < 4) : ∃ z, [V.int a, V.int b, V.int c, V.int d][r.toNat]? = some (.int z) ∧ (z = a ∨ z = b ∨ z = c ∨ z = d) := by
  obtain rfl | rfl | rfl | rfl : r = 0 ∨ r = 1 ∨ r = 2 ∨ r = 3 := by omega
  · exact ⟨a, rfl, .inl rfl⟩
  · exact ⟨b, rfl, .inr (.inl rfl)⟩
  · exact ⟨c, rfl, .inr (.inr (.inl rfl))⟩
  · exact ⟨d, rfl, .inr (.inr (.inr rfl))⟩
/-- a table while it grows -/
structure Tb (C : Int) (T : List Int) : Prop where
  c0 : 0 ≤ C
  ne : 0 < T.length
  nn : ∀ i, i < T.length → 0 ≤ T.getD i 0
  mono : ∀ i, i + 1 < T.length → T.getD i 0 ≤ T.getD (i + 1) 0
  top : ∀ i, i < T.length → T.getD i 0 ≤ C * ((i : Int) + 1)
theorem getD_app {T : List Int} {x : Int} {i : Nat} : (T ++ [x]).getD i 0 = if i < T.length then T.getD i 0 else if i = T.length then x else 0 := by
  rw [List.getD_eq_getElem?_getD, List.getD_eq_getElem?_getD, List.getElem?_append]
  by_cases h : i < T.length
  · rw [if_pos h, if_pos h]
  · rw [if_neg h, if_neg h]
    by_cases e : i = T.length
    · rw [if_pos e, e, Nat.sub_self]
      rfl
    · rw [if_neg e, List.getElem?_eq_none (by rw [List.length_singleton]; omega)]
      rfl
theorem Tb.more {C : Int} {T : List Int} (t : Tb C T) {c : Int} (c0 : 0 ≤ c) (c1 : c ≤ C) : Tb C (T ++ [T.getD (T.length - 1) 0 + c]) := by
  have n := t.ne
  have l := t.nn (T.length - 1) (by omega)
  have u := t.top (T.length - 1) (by omega)
  refine ⟨t.c0, by rw [List.length_append]; omega, fun i hi => ?_, fun i hi => ?_, fun i hi => ?_⟩
  · rw [List.length_append, List.length_singleton] at hi
    rw [getD_app]
    split
    · exact t.nn i (by assumption)
    · rw [if_pos (by omega)]
      omega
  · rw [List.length_append, List.length_singleton] at hi
    rw [getD_app, getD_app, if_pos (by omega)]
    split
    · exact t.mono i (by assumption)
    · rw [if_pos (by omega), show i = T.length - 1 by omega]
      omega
  · rw [List.length_append, List.length_singleton] at hi
    rw [getD_app]
    split
    · exact t.top i (by assumption)
    · rw [if_pos (by omega), show i = T.length by omega]
      have e : C * ((T.length : Int) + 1) = C * (((T.length - 1 : Nat) : Int) + 1) + C := by
        rw [show ((T.length : Int) + 1) = (((T.length - 1 : Nat) : Int) + 1) + 1 by omega, Int.mul_add C (((T.length - 1 : Nat) : Int) + 1) 1, Int.mul_one]
      omega
theorem Tb.all {C N M : Int} {T : List Int} (t : Tb C T) (h : (T.length : Int) ≤ N) (hM : C * (N + 1) ≤ M) : ∀ i, i < T.length → T.getD i 0 + C ≤ M := fun i hi => by
  have a := t.top i hi
  have b : C * (((i : Int) + 1) + 1) ≤ C * (N + 1) := Int.mul_le_mul_of_nonneg_left (by omega) t.c0
  rw [Int.mul_add C ((i : Int) + 1) 1, Int.mul_one] at b
  omega
theorem Tb.rsM {C N M : Int} {T : List Int} (t : Tb C T) (h : (T.length : Int) ≤ N) (hM : C * (N + 1) ≤ M) (l : T.length ≤ 240) {p : Nat} {r : Int} (hp : p ≤ 40) (h1 : r ≤ M) : RS M T p r :=
  ⟨by omega, hp, h1, fun i hi => by have := t.all h hM i hi; have := t.c0; omega⟩
theorem Tb.level {C : Int} {T : List Int} (t : Tb C T) : RuleOk T 1 0 := ⟨by decide, t.ne, by decide, t.nn, t.mono, by omega⟩
theorem Tb.rising {C : Int} {T : List Int} (t : Tb C T) {p : Nat} {c : Int} (p0 : 0 < p) (p1 : p ≤ T.length) (c0 : 0 ≤ c) : RuleOk T p (T.getD (T.length - 1) 0 - T.getD (T.length - p) 0 + c) := by
  have up : T.getD (T.length - p) 0 ≤ T.getD (T.length - 1) 0 := by
    have z : RuleOk T 1 0 := t.level
    exact z.row (by omega) (by omega)
  exact ⟨p0, p1, by omega, t.nn, t.mono, by omega⟩
def sp_val (_ : PySem.W.Frag) : Sp := fun vs H Q _ => ∃ (d : Addr) (T : List Int) (p : Nat) (r : Int) (x : Nat), vs = [.ref d, .int (x : Int)] ∧ RuleAt H d T p r ∧ RuleOk T p r ∧ RB T p r ∧ Q (.int (vl T p r x)) H
abbrev sp_value_of := sp_val
abbrev sp_l_value := sp_val
def sp_l_repeats (_ : PySem.W.Frag) : Sp := fun vs H Q _ => ∃ (d : Addr) (T : List Int) (p : Nat) (r : Int) (s : Nat) (c : Int), vs = [.ref d, .int (s : Int), .int c] ∧ RuleAt H d T p r ∧ RuleOk T p r ∧ RB T p r ∧
  ∀ b, (b = true ↔ Rep T p r s c) → Q (.bl b) H
def sp_l_least (_ : PySem.W.Frag) : Sp := fun vs H Q _ => ∃ (d : Addr) (T : List Int) (p : Nat) (r : Int), vs = [.ref d] ∧ RuleAt H d T p r ∧ RuleOk T p r ∧ RB T p r ∧
  ∀ H' d' T' p' r', Same H H' → RuleAt H' d' T' p' r' → Cut T p r T' p' r' → Short T' p' r' → (∀ x, vl T' p' r' x = vl T p r x) → Q (.ref d') H'
def sp_l_rule (_ : PySem.W.Frag) : Sp := fun vs H Q _ => ∃ (p l : Addr) (n long wide tall M : Int), vs = [.ref p, .int long, .int wide, .int tall] ∧ Deck H p l n ∧ 0 ≤ n ∧ n ≤ 900000 ∧ 0 ≤ long ∧ long ≤ 200 ∧ 1 ≤ wide ∧ wide ≤ 40 ∧ 0 ≤ tall ∧ tall ≤ 1000 ∧ (tall + 1) * (long + wide + 1) ≤ M ∧ M ≤ 10000000 ∧
  ∀ H' d T pp r n', Fr p l H H' → Deck H' p l n' → n ≤ n' → n' ≤ n + 1000 → RuleAt H' d T pp r → RS M T pp r → (T.length : Int) ≤ long + wide → Short T pp r → Q (.ref d) H'
section
variable {P : Program} {w : World} {K : PySem.W.Frag} {mg : Str → Option Value} {base : Heap}
abbrev s_l_deck : Stmt := topS 26
abbrev N_l_deck : List Str := ["_law_script", "_law_cell"]
theorem sc_l_deck : FnScope N_l_deck ["_law_script"] (defScope s_l_deck) := ⟨rfl, rfl, rfl, by decide +kernel, rfl, by decide +kernel, by decide +kernel⟩
theorem ok_l_deck (T : Txt mg) (D : Df K mg "_law_deck" s_l_deck ["_law_script"]) : Cal P w K mg base "_law_deck" ["_law_script"] 1 (sp_l_deck K) := by
  refine D.cal sc_l_deck (fun vs H Q E h => ?_) (fun f cdv A outer s H vs Q E hr h => ?_)
  · obtain ⟨a, ns, rfl, _⟩ := h
    rfl
  obtain ⟨a, ns, rfl, hS, hlen, k⟩ := h
  refine ⟨_, (pss_one (ps_ret (pe_lst (pa_cons (pe_lc (own := [("_law_cell", 1)]) (g := gName 1) (tt := tYes) rfl sc_l_deck.nd (pi_list (pe_slice sl_list (pv 0) po_none (po_some pe_int))) (blkOk_by (own := [("_law_cell", 1)]) (N := N_l_deck) (sc := defScope s_l_deck) (by decide +kernel)) (fun _ _ _ _ _ => pg_name (i := 1) sc_l_deck.nd rfl (Or.inl rfl)) (fun _ _ _ _ _ => pts_nil) (fun _ _ _ _ _ => (pe_callB call_abs (by rfl) T.n_abs (by decide +kernel) (pa_cons (pv 1) pa_nil)))) (pa_cons pe_int pa_nil))))), ?_⟩
  refine ⟨_, rfl, _, rfl, a, _, rfl, hS, fun c nc => ?_⟩
  rw [cut63 hlen]
  have s1 := same_upd (o := .lst (ns.map V.int)) nc
  refine ⟨c, rfl, ⟨_, SqL.of upd_same⟩, fun D nD => ?_⟩
  have s2 := s1.trans (same_upd (o := .lst []) nD)
  have hc2 : upd (upd H c (.lst (ns.map V.int))) D (.lst []) c = some (.lst (ns.map V.int)) := same_upd nD _ _ upd_same
  refine lc_list (K := K) (a := c) (xs := ns.map V.int) (fun i H' => Same H H' ∧ H' c = some (.lst (ns.map V.int)) ∧ c ≠ D ∧ H D = none ∧ H' D = some (.lst (((ns.take i).map absI).map V.int)))
    ⟨s2, hc2, ne_of_none upd_same nD, s1.free nD, upd_same⟩ (fun i H' _ h => SqL.of h.2.1) ?_ ?_
  · rintro i x H' hx ⟨sm, hc, ncD, nD0, hD⟩
    rw [List.getElem?_map] at hx
    cases e : ns[i]? with
    | none => rw [e] at hx; cases hx
    | some y =>
      rw [e] at hx
      have ex : x = .int y := (Option.some.inj hx).symm
      subst ex
      refine ⟨rfl, ?_⟩
      unfold tYes
      refine iteT ?_
      refine ⟨_, rfl, _, rfl, _, hD, ?_, ?_⟩
      · rw [List.length_map, List.length_map, List.length_take]
        exact Nat.lt_of_le_of_lt (Nat.min_le_right _ _) (small1000 (by omega))
      · refine ⟨fun b o e => ?_, ?_, ncD, nD0, ?_⟩
        · rw [upd_ne (ne_of_none e nD0)]
          exact sm _ _ e
        · rw [upd_ne ncD]
          exact hc
        · rw [upd_same, List.take_add_one, e, List.map_append, List.map_append]
          rfl
  · rintro H' ⟨sm, hc, ncD, nD0, hD⟩
    refine ⟨(by show 2 ≤ sizeLine; decide), fun p np => ?_⟩
    have s3 := sm.trans (same_upd (o := .lst [.ref D, .int 0]) np)
    refine k _ p D s3 ⟨upd_same, _, (same_upd np) _ _ hD, fun c hc => ?_, ?_⟩
    · obtain ⟨y, _, rfl⟩ := List.mem_map.mp hc
      exact absI_pos y
    · rw [List.length_map, List.length_take]
      omega
abbrev s_l_draw : Stmt := topS 27
abbrev N_l_draw : List Str := ["_law_deck_here", "_law_many", "_law_place", "_law_cell", "_law_mixed"]
theorem sc_l_draw : FnScope N_l_draw ["_law_deck_here", "_law_many"] (defScope s_l_draw) := ⟨rfl, rfl, rfl, by decide +kernel, rfl, by decide +kernel, by decide +kernel⟩
theorem ok_l_draw (T : Txt mg) (D : Df K mg "_law_draw" s_l_draw ["_law_deck_here", "_law_many"]) : Cal P w K mg base "_law_draw" ["_law_deck_here", "_law_many"] 1 (sp_l_draw K) := by
  refine D.cal sc_l_draw (fun vs H Q E h => ?_) (fun f cdv A outer s H vs Q E hr h => ?_)
  · obtain ⟨p, l, n, m, rfl, _⟩ := h
    rfl
  obtain ⟨p, l, n, m, rfl, D, n0, n1, m0, m1, k⟩ := h
  obtain ⟨cells, hl, hc⟩ := D.hl
  have npl : p ≠ l := ne_of D.hp hl deck_ne
  refine ⟨_, (pss_cons (ps_asg (pe_op op_add (pe_ix ix_list (pv 0) pe_int (fun _ _ => rfl)) pe_int) (pg_sub (pv 0) pe_int set_list))
    (pss_cons (ps_set (i := 2) sc_l_draw.nd rfl (Or.inl rfl) (pe_op op_modN (pe_callTy call_int1 (by rfl) T.n_int (by decide +kernel) (pa_cons (pe_ix ix_list (pv 0) pe_int (fun _ _ => rfl)) pa_nil)) (pe_callB (call_max2 rfl) (by rfl) T.n_max (by decide +kernel) (pa_cons pe_int (pa_cons (pe_callB call_len_seq (by rfl) T.n_len (by decide +kernel) (pa_cons (pe_ix ix_list (pv 0) pe_int (fun _ _ => rfl)) pa_nil)) pa_nil)))))
    (pss_cons (ps_set (i := 3) sc_l_draw.nd rfl (Or.inl rfl) (pe_ix ix_list (pe_op op_cat (pe_ix ix_list (pv 0) pe_int (fun _ _ => rfl)) (pe_lst (pa_cons pe_int pa_nil))) (pv 2) (fun _ _ => rfl)))
    (pss_cons (ps_if (pt_cmpR op_ge (pv 3) (pe_op op_pow pe_int pe_int) (nomark _)) (pss_cons (ps_asg (pe_op op_fdivW (pv 3) (pv 1)) (pg_sub (pe_ix ix_list (pv 0) pe_int (fun _ _ => rfl)) (pv 2) set_list))
    (pss_one (ps_ret (pe_op op_modN (pe_callTy call_int1 (by rfl) T.n_int (by decide +kernel) (pa_cons (pv 3) pa_nil)) (pv 1))))) pss_nil)
    (pss_cons (ps_set (i := 4) sc_l_draw.nd rfl (Or.inl rfl) (pe_op op_pow (pe_op op_add (pe_op op_add (pe_op op_modN (pe_callTy call_int1 (by rfl) T.n_int (by decide +kernel) (pa_cons (pv 3) pa_nil)) pe_int) (pe_op op_mul pe_int (pe_ix ix_list (pv 0) pe_int (fun _ _ => rfl)))) pe_int) pe_int))
    (pss_one (ps_ret (pe_op op_modN (pe_callTy call_int1 (by rfl) T.n_int (by decide +kernel) (pa_cons (pe_op op_modN (pe_callTy call_int1 (by rfl) T.n_int (by decide +kernel) (pa_cons (pv 4) pa_nil)) pe_int) pa_nil)) (pv 1))))))))), ?_⟩
  refine ⟨_, rfl, _, _, _, _, rfl, rfl, SqL.of D.hp, atI_nat (j := 1) rfl, _, _, rfl, rfl, _, rfl, _, _, _, _, rfl, rfl, D.hp, rfl, ?_⟩
  generalize hH0 : upd H p (HO.lst (List.set [V.ref l, V.int n] (Int.toNat 1) ((fun i j => V.int (i + j)) n 1))) = H0
  have hH0 : upd H p (.lst [.ref l, .int (n + 1)]) = H0 := hH0
  have f0 : Fr p l H H0 := fun b o h1 _ h => by rw [← hH0, upd_ne h1]; exact h
  have hl0 : H0 l = some (.lst (cells.map V.int)) := by rw [← hH0, upd_ne npl.symm]; exact hl
  have hp0 : H0 p = some (.lst [.ref l, .int (n + 1)]) := by rw [← hH0, upd_same]
  -- place
  have big : (if ((cells.map V.int).length : Int) > 1 then ((cells.map V.int).length : Int) else 1) = max 1 (cells.length : Int) := by
    rw [List.length_map]
    split <;> omega
  have fm : (n + 1).fmod (max 1 (cells.length : Int)) = (n + 1) % (max 1 (cells.length : Int)) := fmod_pos (by omega)
  have q0 : 0 ≤ (n + 1).fmod (max 1 (cells.length : Int)) := by rw [fm]; exact Int.emod_nonneg _ (by omega)
  have q1 : (n + 1).fmod (max 1 (cells.length : Int)) < max 1 (cells.length : Int) := by rw [fm]; exact Int.emod_lt_of_pos _ (by omega)
  refine ⟨_, rfl, _, _, _, _, rfl, rfl, SqL.of hp0, atI_nat (j := 1) rfl, .inl ⟨_, rfl, _, rfl, _, _, _, _, rfl, rfl, SqL.of hp0, atI_nat (j := 0) rfl, _, _, rfl, .inl (SqL.of hl0), _, _, rfl, _, _, rfl, rfl, (by rw [big]; omega), ?_⟩⟩
  have z : ∀ B : Int → Prop, B ((n + 1).fmod (max 1 (cells.length : Int))) → B ((n + 1).fmod (if ((cells.map V.int).length : Int) > 1 then ((cells.map V.int).length : Int) else 1)) := fun B h => by rw [big]; exact h
  refine z (fun y => gName 2 (.int y) _ _ _) ?_
  clear z
  -- cell
  refine ⟨_, rfl, _, _, _, _, rfl, rfl, SqL.of hp0, atI_nat (j := 0) rfl, (by show 1 ≤ sizeLine; decide), fun t nt => ?_⟩
  have st := same_upd (o := .lst [.int 0]) nt
  have hp1 := st _ _ hp0
  have hl1 := st _ _ hl0
  have f1 := f0.trans (Same.fr (p := p) (l := l) st)
  obtain ⟨hc, h63⟩ := hc
  have ln : (cells.map V.int).length = cells.length := List.length_map ..
  refine ⟨_, _, _, _, rfl, rfl, hl1, upd_same, (by rw [ln]; exact Nat.le_trans (by omega : cells.length + 1 ≤ 64) (by decide)), fun t2 nt2 => ?_⟩
  have st2 := same_upd (o := .lst (cells.map V.int ++ [.int 0])) nt2
  have hp2 := st2 _ _ hp1
  have hl2 := st2 _ _ hl1
  have f2 := f1.trans (Same.fr (p := p) (l := l) st2)
  have ht2 : upd (upd H0 t (.lst [.int 0])) t2 (.lst (cells.map V.int ++ [.int 0])) t2 = some (.lst ((cells ++ [0]).map V.int)) := by rw [upd_same, List.map_append]; rfl
  generalize upd (upd H0 t (HO.lst [V.int 0])) t2 (HO.lst (cells.map V.int ++ [V.int 0])) = H2 at hp2 hl2 f2 ht2 ⊢
  have q2 : ((n + 1).fmod (max 1 (cells.length : Int))).toNat < (cells ++ [0]).length := by rw [List.length_append, List.length_singleton]; omega
  have q3 : (n + 1).fmod (max 1 (cells.length : Int)) = (((n + 1).fmod (max 1 (cells.length : Int))).toNat : Int) := by omega
  generalize (n + 1).fmod (max 1 (cells.length : Int)) = pl at q0 q1 q2 q3 ⊢
  have q4 : ((cells ++ [0]).map V.int)[pl.toNat]? = some (.int (cells ++ [0])[pl.toNat]) := by
    rw [List.getElem?_map, List.getElem?_eq_getElem q2]
    rfl
  have c0 : 0 ≤ (cells ++ [0])[pl.toNat] := by
    rcases List.mem_append.mp (List.getElem_mem q2) with q | q
    · exact hc _ q
    · rw [List.mem_singleton.mp q]
      decide
  have inside : 1000000000000000000 ≤ (cells ++ [0])[pl.toNat] → pl.toNat < cells.length := by
    intro q
    by_cases e : pl.toNat < cells.length
    · exact e
    · rw [List.getElem_append_right (by omega)] at q
      simp at q
  generalize (cells ++ [0])[pl.toNat] = c at q4 c0 inside ⊢
  refine ⟨_, rfl, _, _, _, _, rfl, rfl, SqL.of ht2, at_of q3 q4, ?_⟩
  refine ⟨_, rfl, _, _, rfl, rfl, ⟨by decide, by decide, by decide⟩, _, _, rfl, rfl, _, rfl, ite3 (fun e => ?_) (fun e => ?_)⟩
  · have e : 1000000000000000000 ≤ c := e
    have p1 := inside e
    have ix : ixN (cells.map V.int).length pl = some pl.toNat := by
      unfold ixN
      rw [if_pos q0, if_pos (by omega)]
    refine ⟨_, rfl, _, rfl, _, _, rfl, rfl, div_draw m0 m1, _, rfl, _, _, _, _, rfl, rfl, SqL.of hp2, atI_nat (j := 0) rfl, _, rfl, _, _, _, _, rfl, rfl, hl2, ix, ?_⟩
    refine ⟨_, rfl, .inl ⟨_, rfl, _, rfl, _, _, rfl, rfl, (by omega), ?_⟩⟩
    have fm : c.fmod m = c % m := fmod_pos m0
    refine k _ _ (by rw [fm]; exact Int.emod_nonneg _ (by omega)) (by rw [fm]; exact Int.emod_lt_of_pos _ m0) (f2.trans fun b o _ h2 h => by rw [upd_ne h2]; exact h) ⟨by rw [upd_ne npl]; exact hp2, cells.set pl.toNat (c / m), by rw [upd_same, List.map_set], fun y hy => ?_, by rw [List.length_set]; exact h63⟩
    rcases List.mem_or_eq_of_mem_set hy with q | q
    · exact hc y q
    · rw [q]; exact Int.ediv_nonneg c0 (by omega)
  · refine ⟨_, rfl, .inl ⟨_, rfl, _, _, rfl, rfl, (show (2147483587 : Int) ≠ 0 by decide), _, rfl, _, _, _, _, rfl, rfl, SqL.of hp2, atI_nat (j := 1) rfl, _, _, rfl, rfl, .inl ⟨by decide, by decide⟩, _, _, rfl, rfl, _, _, rfl, rfl, ?_⟩⟩
    have fm : c.fmod 2147483587 = c % 2147483587 := fmod_pos (by decide)
    have h0 := Int.emod_nonneg c (show (2147483587 : Int) ≠ 0 by decide)
    have h1 := Int.emod_lt_of_pos c (show (0 : Int) < 2147483587 by decide)
    refine ⟨_, _, rfl, rfl, ⟨by decide, by decide, by rw [fm]; omega⟩, ?_⟩
    refine ⟨_, rfl, .inl ⟨_, rfl, _, _, rfl, rfl, (show (2147483647 : Int) ≠ 0 by decide), .inl ⟨_, rfl, _, rfl, _, _, rfl, rfl, (by omega), ?_⟩⟩⟩
    refine k _ _ ?_ ?_ f2 ⟨hp2, cells, hl2, hc, h63⟩
    · rw [fmod_pos m0]; exact Int.emod_nonneg _ (by omega)
    · rw [fmod_pos m0]; exact Int.emod_lt_of_pos _ m0
abbrev s_l_one : Stmt := topS 28
abbrev N_l_one : List Str := ["_law_deck_here", "_law_items"]
theorem sc_l_one : FnScope N_l_one ["_law_deck_here", "_law_items"] (defScope s_l_one) := ⟨rfl, rfl, rfl, by decide +kernel, rfl, by decide +kernel, by decide +kernel⟩
theorem ok_l_one (T : Txt mg) (D : Df K mg "_law_one" s_l_one ["_law_deck_here", "_law_items"]) (C_l_draw : Cal P w K mg base "_law_draw" ["_law_deck_here", "_law_many"] 1 (sp_l_draw K)) : Cal P w K mg base "_law_one" ["_law_deck_here", "_law_items"] 2 (sp_l_one K) := by
  obtain ⟨f_l_draw, fd_l_draw, G_l_draw, m_l_draw, k_l_draw, b_l_draw⟩ := C_l_draw
  refine D.cal sc_l_one (fun vs H Q E h => ?_) (fun f cdv A outer s H vs Q E hr h => ?_)
  · obtain ⟨p, l, b, n, xs, rfl, _⟩ := h
    rfl
  obtain ⟨p, l, b, n, xs, rfl, D, n0, n1, hb, bp, bl, x0, x1, k⟩ := h
  refine ⟨_, (pss_one (ps_ret (pe_ix ix_list (pv 1) (pe_call G_l_draw (hr.mono (by decide)) (by rfl) m_l_draw k_l_draw b_l_draw .nil pass0 (pa_cons (pv 0) (pa_cons (pe_callB call_len_seq (by rfl) T.n_len (by decide +kernel) (pa_cons (pv 1) pa_nil)) pa_nil))) (fun _ _ => rfl)))), ?_⟩
  refine ⟨_, rfl, _, rfl, _, rfl, _, _, rfl, .inl (SqL.of hb), p, l, n, _, rfl, D, n0, n1, (by omega), (by omega), fun r H' r0 r1 f D' => ?_⟩
  have q : r.toNat < xs.length := by omega
  refine ⟨_, _, _, _, rfl, rfl, SqL.of (f b _ bp bl hb), at_of (j := r.toNat) (by omega) (List.getElem?_eq_getElem q), ?_⟩
  exact k _ H' (List.getElem_mem q) f D'
end
end Sm

set_option Elab.async false
set_option linter.all false
set_option maxRecDepth 100000
set_option maxHeartbeats 8000000
namespace Sm
open PySem PySem.Spec PyProof.Rows L2
open C8 (pss_cut tCut)
section
variable {P : Program} {w : World} {K : PySem.W.Frag} {mg : Str → Option Value} {base : Heap}
theorem RB.div {T : List Int} {p : Nat} {r x : Int} (b : RB T p r) (o : RuleOk T p r) : CDivW x (p : Int) := by
  have := b.len
  have := o.p0
  have := o.p1
  exact wide_div (b := 15) (by omega) (by omega) (by decide) (by decide)
theorem RB.mulR {T : List Int} {p : Nat} {r x : Int} (b : RB T p r) (o : RuleOk T p r) : CMul x r := by
  have := b.r1
  have := o.r0
  exact .inr ⟨by omega, by omega⟩
theorem RB.mulR' {T : List Int} {p : Nat} {r x : Int} (b : RB T p r) (o : RuleOk T p r) : CMul r x := by
  have := b.r1
  have := o.r0
  exact .inl ⟨by omega, by omega⟩
theorem RB.mulP {T : List Int} {p : Nat} {r x : Int} (b : RB T p r) (o : RuleOk T p r) : CMul x (p : Int) := by
  have := b.len
  have := o.p1
  exact .inr ⟨by omega, by omega⟩
theorem len_int (T : List Int) : (((T.map V.int).length : Nat) : Int) = (T.length : Int) := by rw [List.length_map]
theorem turns_eq {T : List Int} {p x : Nat} (h : T.length ≤ x) : ((x : Int) - (((T.map V.int).length : Nat) : Int)) / (p : Int) + 1 = (((x - T.length) / p + 1 : Nat) : Int) := by
  rw [len_int]
  exact div_cast h
theorem index_eq {q p x : Nat} (h : q * p ≤ x) : (x : Int) - (q : Int) * (p : Int) = ((x - q * p : Nat) : Int) := by
  rw [Int.natCast_sub h, Int.natCast_mul]
abbrev s_l_value : Stmt := topS 29
abbrev N_l_value : List Str := ["_law_rule_here", "_law_x", "_law_table", "_law_period", "_law_rise", "_law_turns"]
theorem sc_l_value : FnScope N_l_value ["_law_rule_here", "_law_x"] (defScope s_l_value) := ⟨rfl, rfl, rfl, by decide +kernel, rfl, by decide +kernel, by decide +kernel⟩
theorem ok_l_value (T : Txt mg) (D : Df K mg "_law_value" s_l_value ["_law_rule_here", "_law_x"]) : Cal P w K mg base "_law_value" ["_law_rule_here", "_law_x"] 1 (sp_l_value K) := by
  refine D.cal sc_l_value (fun vs H Q E h => ?_) (fun f cdv A outer s H vs Q E hr h => ?_)
  · obtain ⟨d, T0, p, r, x, rfl, _⟩ := h
    rfl
  obtain ⟨d, T0, p, r, x, rfl, ⟨t, hd, ht⟩, o, b, k⟩ := h
  have p0 := o.p0
  have p1 := o.p1
  refine ⟨_, (pss_cons (ps_asg (pv 0) (pg_tup (by rfl) (pgs_cons (pg_name (i := 2) sc_l_value.nd rfl (Or.inl rfl)) (pgs_cons (pg_name (i := 3) sc_l_value.nd rfl (Or.inl rfl)) (pgs_cons (pg_name (i := 4) sc_l_value.nd rfl (Or.inl rfl)) pgs_nil)))))
    (pss_cons (ps_if (pt_cmpR op_lt (pv 1) (pe_callB call_len_seq (by rfl) T.n_len (by decide +kernel) (pa_cons (pv 2) pa_nil)) (nomark _)) (pss_one (ps_ret (pe_ix ix_tup (pv 2) (pv 1) (fun _ _ => rfl)))) pss_nil)
    (pss_cons (ps_set (i := 5) sc_l_value.nd rfl (Or.inl rfl) (pe_op op_add (pe_op op_fdivW (pe_op op_sub (pv 1) (pe_callB call_len_seq (by rfl) T.n_len (by decide +kernel) (pa_cons (pv 2) pa_nil))) (pv 3)) pe_int))
    (pss_one (ps_ret (pe_op op_add (pe_ix ix_tup (pv 2) (pe_op op_sub (pv 1) (pe_op op_mul (pv 5) (pv 3))) (fun _ _ => rfl)) (pe_op op_mul (pv 5) (pv 4)))))))), ?_⟩
  refine ⟨_, rfl, _, _, rfl, SqT.of hd, rfl, _, _, rfl, _, _, rfl, _, _, rfl, rfl, ?_⟩
  refine ⟨_, rfl, _, rfl, _, _, rfl, .inr (SqT.of ht), _, _, rfl, rfl, _, rfl, ite3 (fun e => ?_) (fun e => ?_)⟩
  · rw [len_int] at e
    have e : x < T0.length := by omega
    rw [vl_lt e] at k
    exact ⟨_, rfl, _, rfl, _, _, _, _, rfl, rfl, SqT.of ht, atI_nat (get_int e), k⟩
  · rw [len_int] at e
    have e : T0.length ≤ x := by omega
    have z : ∀ B : Int → Prop, B (((x - T0.length) / p + 1 : Nat) : Int) → B (((x : Int) - (((T0.map V.int).length : Nat) : Int)) / (p : Int) + 1) := fun B h => by rw [turns_eq e]; exact h
    refine ⟨_, rfl, _, rfl, _, _, rfl, .inr (SqT.of ht), _, _, rfl, rfl, _, rfl, _, _, rfl, rfl, b.div o, _, _, rfl, rfl, ?_⟩
    refine z (fun y => gName 5 (.int y) _ _ _) ?_
    clear z
    obtain ⟨a1, a2, a3⟩ := place p0 p1 e
    have kv : vl T0 p r x = T0.getD (x - ((x - T0.length) / p + 1) * p) 0 + (((x - T0.length) / p + 1 : Nat) : Int) * r := if_neg (by omega)
    rw [kv] at k
    generalize (x - T0.length) / p + 1 = q at a1 a2 a3 k ⊢
    exact ⟨_, rfl, _, rfl, _, rfl, _, rfl, _, _, rfl, rfl, b.mulP o, _, _, rfl, rfl, _, _, _, _, rfl, rfl, SqT.of ht, at_of (index_eq a1) (get_int a3), _, rfl, _, rfl, _, _, rfl, rfl, b.mulR o, _, _, rfl, rfl, k⟩
abbrev s_l_repeats : Stmt := topS 30
abbrev N_l_repeats : List Str := ["_law_rule_here", "_law_step", "_law_more", "_law_table", "_law_period", "_law_rise", "_law_x"]
theorem sc_l_repeats : FnScope N_l_repeats ["_law_rule_here", "_law_step", "_law_more"] (defScope s_l_repeats) := ⟨rfl, rfl, rfl, by decide +kernel, rfl, by decide +kernel, by decide +kernel⟩
theorem ok_l_repeats (T : Txt mg) (D : Df K mg "_law_repeats" s_l_repeats ["_law_rule_here", "_law_step", "_law_more"]) (C_l_value : Cal P w K mg base "_law_value" ["_law_rule_here", "_law_x"] 1 (sp_l_value K)) : Cal P w K mg base "_law_repeats" ["_law_rule_here", "_law_step", "_law_more"] 2 (sp_l_repeats K) := by
  obtain ⟨f_l_value, fd_l_value, G_l_value, m_l_value, k_l_value, b_l_value⟩ := C_l_value
  refine D.cal sc_l_repeats (fun vs H Q E h => ?_) (fun f cdv A outer s H vs Q E hr h => ?_)
  · obtain ⟨d, T0, p, r, s, c, rfl, _⟩ := h
    rfl
  obtain ⟨d, T0, p, r, st, c, rfl, R, o, b, k⟩ := h
  obtain ⟨t, hd, ht⟩ := id R
  have p0 := o.p0
  have p1 := o.p1
  have bl := b.len
  refine ⟨_, (pss_cons (ps_asg (pv 0) (pg_tup (by rfl) (pgs_cons (pg_name (i := 3) sc_l_repeats.nd rfl (Or.inl rfl)) (pgs_cons (pg_name (i := 4) sc_l_repeats.nd rfl (Or.inl rfl)) (pgs_cons (pg_name (i := 5) sc_l_repeats.nd rfl (Or.inl rfl)) pgs_nil)))))
    (pss_cons (ps_for PassesOwn.never rfl (pi_range2 (by rfl) T.n_range (pa_cons (pe_op op_sub (pe_callB call_len_seq (by rfl) T.n_len (by decide +kernel) (pa_cons (pv 3) pa_nil)) (pv 4)) (pa_cons (pe_callB call_len_seq (by rfl) T.n_len (by decide +kernel) (pa_cons (pv 3) pa_nil)) pa_nil))) (pg_name (i := 6) sc_l_repeats.nd rfl (Or.inl rfl))
      (pss_one (ps_if (pt_cmpR op_ne (pe_call G_l_value (hr.mono (by decide)) (by rfl) m_l_value k_l_value b_l_value .nil pass0 (pa_cons (pv 0) (pa_cons (pe_op op_add (pv 6) (pv 1)) pa_nil))) (pe_op op_add (pe_ix ix_tup (pv 3) (pv 6) (fun _ _ => rfl)) (pv 2)) (nomark _)) (pss_one (ps_ret pe_bl)) pss_nil)))
    (pss_one (ps_ret pe_bl)))), ?_⟩
  refine ⟨_, rfl, _, _, rfl, SqT.of hd, rfl, _, _, rfl, _, _, rfl, _, _, rfl, rfl, ?_⟩
  have ll := len_int T0
  refine ⟨_, rfl, _, _, rfl, .inr (SqT.of ht), _, rfl, _, _, rfl, rfl, _, rfl, _, _, rfl, .inr (SqT.of ht), _, _, rfl, ⟨by rw [ll]; omega, by rw [ll]; omega, by rw [ll]; omega, by rw [ll]; omega⟩, ?_⟩
  refine for_range (lo := _) (n := _) (fun i σ H' => ∃ v, σ = [some (.ref d), some (.int (st : Int)), some (.int c), some (.ref t), some (.int (p : Int)), some (.int r), v] ∧ H' = H ∧ ∀ j, j < i → vl T0 p r (T0.length - p + j + st) = T0.getD (T0.length - p + j) 0 + c)
    ⟨none, rfl, rfl, fun j hj => absurd hj (Nat.not_lt_zero _)⟩ ?_ ?_
  · rintro i σ H' hi ⟨v, rfl, rfl, hj⟩
    have hi : i < p := by
      rw [ll] at hi
      omega
    have e1 : (((T0.map V.int).length : Nat) : Int) - (p : Int) + (i : Int) = ((T0.length - p + i : Nat) : Int) := by rw [ll]; omega
    have e2 : (((T0.map V.int).length : Nat) : Int) - (p : Int) + (i : Int) + (st : Int) = ((T0.length - p + i + st : Nat) : Int) := by rw [ll]; omega
    have z : ∀ B : Int → Prop, B ((T0.length - p + i : Nat) : Int) → B ((((T0.map V.int).length : Nat) : Int) - (p : Int) + (i : Int)) := fun B h => by rw [e1]; exact h
    refine z (fun y => gName 6 (.int y) _ _ _) ?_
    clear z
    refine ⟨_, rfl, _, rfl, _, rfl, _, _, rfl, rfl, d, T0, p, r, T0.length - p + i + st, rfl, R, o, b, _, rfl, _, rfl, _, _, _, _, rfl, rfl, SqT.of ht, atI_nat (get_int (by omega)), _, rfl, _, _, rfl, rfl, rfl, _, rfl, ?_⟩
    by_cases e : vl T0 p r (T0.length - p + i + st) = T0.getD (T0.length - p + i) 0 + c
    · refine iteNP (congrArg V.int e) ⟨_, rfl, rfl, fun j hj' => ?_⟩
      by_cases q : j = i
      · rw [q]
        exact e
      · exact hj j (by omega)
    · exact iteNN (fun q => e (V.int.inj q)) (k false ⟨fun q => (nomatch q), fun rep => absurd (rep (T0.length - p + i) (by omega) (by omega)) e⟩)
  · rintro σ H' ⟨v, rfl, rfl, hj⟩
    refine k true ⟨fun _ i h1 h2 => ?_, fun _ => rfl⟩
    have := hj (i - (T0.length - p)) (by rw [ll]; omega)
    rw [show T0.length - p + (i - (T0.length - p)) = i by omega] at this
    exact this
def LeastW (d t : Addr) (T0 : List Int) (p : Nat) (r : Int) (s : Nat) (c : Int) (v : Option V) (H0 : Hp) : Nat → List (Option V) → Hp → Prop := fun m σ H =>
  σ = [some (.ref d), some (.ref t), some (.int (p : Int)), some (.int r), some (.int (s : Int)), some (.int (m : Int)), v, some (.int c)] ∧ H = H0 ∧ m ≤ T0.length - p ∧ ∀ y, m ≤ y → vl T0 p r (y + s) = vl T0 p r y + c
abbrev s_l_least : Stmt := topS 31
abbrev N_l_least : List Str := ["_law_rule_here", "_law_table", "_law_period", "_law_rise", "_law_step", "_law_start", "_law_one_here", "_law_more"]
theorem sc_l_least : FnScope N_l_least ["_law_rule_here"] (defScope s_l_least) := ⟨rfl, rfl, rfl, by decide +kernel, rfl, by decide +kernel, by decide +kernel⟩
theorem ok_l_least (T : Txt mg) (D : Df K mg "_law_least" s_l_least ["_law_rule_here"]) (C_l_value : Cal P w K mg base "_law_value" ["_law_rule_here", "_law_x"] 1 (sp_l_value K)) (C_l_repeats : Cal P w K mg base "_law_repeats" ["_law_rule_here", "_law_step", "_law_more"] 2 (sp_l_repeats K)) : Cal P w K mg base "_law_least" ["_law_rule_here"] 3 (sp_l_least K) := by
  obtain ⟨f_l_value, fd_l_value, G_l_value, m_l_value, k_l_value, b_l_value⟩ := C_l_value
  obtain ⟨f_l_repeats, fd_l_repeats, G_l_repeats, m_l_repeats, k_l_repeats, b_l_repeats⟩ := C_l_repeats
  refine D.cal sc_l_least (fun vs H Q E h => ?_) (fun f cdv A outer s H vs Q E hr h => ?_)
  · obtain ⟨d, T0, p, r, rfl, _⟩ := h
    rfl
  obtain ⟨d, T0, p, r, rfl, R, o, b, k⟩ := h
  obtain ⟨t, hd, ht⟩ := id R
  have p0 := o.p0
  have p1 := o.p1
  have bl := b.len
  have r0 := o.r0
  have ll := len_int T0
  refine ⟨_, (pss_cons (ps_asg (pv 0) (pg_tup (by rfl) (pgs_cons (pg_name (i := 1) sc_l_least.nd rfl (Or.inl rfl)) (pgs_cons (pg_name (i := 2) sc_l_least.nd rfl (Or.inl rfl)) (pgs_cons (pg_name (i := 3) sc_l_least.nd rfl (Or.inl rfl)) pgs_nil)))))
    (pss_cons (ps_par (i := 4) (j := 5) (by rfl) sc_l_least.nd rfl rfl (by decide) rfl rfl (pa_cons (pv 2) (pa_cons (pe_op op_sub (pe_callB call_len_seq (by rfl) T.n_len (by decide +kernel) (pa_cons (pv 1) pa_nil)) (pv 2)) pa_nil)) (by rfl))
    (pss_cut (ps_for PassesOwn.never rfl (pi_range2 (by rfl) T.n_range (pa_cons pe_int (pa_cons (pv 2) pa_nil))) (pg_name (i := 6) sc_l_least.nd rfl (Or.inl rfl))
      (pss_one (ps_if (PW.pt (pw_and (pt_cmpR op_eq (pv 4) (pv 2) (nomark _)) (pw_and (pt_cmpR op_eq (pe_op op_modN (pe_callTy call_int1 (by rfl) T.n_int (by decide +kernel) (pa_cons (pv 2) pa_nil)) (pv 6)) pe_int (nomark _)) (pw_and1 (pt_cmpR op_eq (pe_op op_modN (pe_callTy call_int1 (by rfl) T.n_int (by decide +kernel) (pa_cons (pe_op op_mul (pv 3) (pv 6)) pa_nil)) (pv 2)) pe_int (nomark _)))))) (pss_one (ps_if (pt_val (pe_call G_l_repeats (hr.mono (by decide)) (by rfl) m_l_repeats k_l_repeats b_l_repeats .nil pass0 (pa_cons (pv 0) (pa_cons (pv 6) (pa_cons (pe_op op_fdivW (pe_op op_mul (pv 3) (pv 6)) (pv 2)) pa_nil))))) (pss_one (ps_set (i := 4) sc_l_least.nd rfl (Or.inl rfl) (pv 6))) pss_nil)) pss_nil)))
    (pss_cons (ps_set (i := 7) sc_l_least.nd rfl (Or.inl rfl) (pe_op op_fdivW (pe_op op_mul (pv 3) (pv 4)) (pv 2)))
    (pss_cons (ps_while PassesOwn.never (PW.pt (pw_and (pt_cmpR op_gt (pv 5) pe_int (nomark _)) (pw_and1 (pt_cmpR op_eq (pe_call G_l_value (hr.mono (by decide)) (by rfl) m_l_value k_l_value b_l_value .nil pass0 (pa_cons (pv 0) (pa_cons (pe_op op_add (pe_op op_sub (pv 5) pe_int) (pv 4)) pa_nil))) (pe_op op_add (pe_ix ix_tup (pv 1) (pe_op op_sub (pv 5) pe_int) (fun _ _ => rfl)) (pv 7)) (nomark _)))))
      (pss_one (ps_set (i := 5) sc_l_least.nd rfl (Or.inl rfl) (pe_op op_sub (pv 5) pe_int))))
    (pss_one (ps_ret (pe_tup (pa_cons (pe_callTy call_tupleT (by rfl) T.n_tuple (by decide +kernel) (pa_cons (pe_slice sl_tupA (pv 1) po_none (po_some (pe_op op_add (pv 5) (pv 4)))) pa_nil)) (pa_cons (pv 4) (pa_cons (pv 7) pa_nil))))))))))), ?_⟩
  refine ⟨_, rfl, _, _, rfl, SqT.of hd, rfl, _, _, rfl, _, _, rfl, _, _, rfl, rfl, ?_⟩
  have z : ∀ B : Int → Prop, B ((T0.length - p : Nat) : Int) → B ((((T0.map V.int).length : Nat) : Int) - (p : Int)) := fun B h => by
    rw [ll, ← Int.natCast_sub p1]
    exact h
  refine ⟨_, rfl, _, rfl, _, _, rfl, .inr (SqT.of ht), _, rfl, _, _, rfl, rfl, _, _, rfl, ?_⟩
  refine z (fun y => tCut _ _ _ (List.set (List.set _ 4 (some (.int (p : Int)))) 5 (some (.int y))) H) ?_
  clear z
  refine ⟨fun σ H' => H' = H ∧ ∃ (s : Nat) (v : Option V), σ = [some (.ref d), some (.ref t), some (.int (p : Int)), some (.int r), some (.int (s : Int)), some (.int ((T0.length - p : Nat) : Int)), v, none] ∧ 1 ≤ s ∧ s ≤ p ∧ Rep T0 p r s (r * (s : Int) / (p : Int)) ∧ s ∣ p ∧ ∀ s' c', 0 < s' → s' < s → s' ∣ p → ¬ Rep T0 p r s' c', ?_, ?_⟩
  · refine ⟨_, rfl, _, _, rfl, ⟨by omega, by omega, by omega, by omega⟩, for_range (lo := _) (n := _) (fun i σ H' => H' = H ∧ ∃ (s : Nat) (v : Option V), σ = [some (.ref d), some (.ref t), some (.int (p : Int)), some (.int r), some (.int (s : Int)), some (.int ((T0.length - p : Nat) : Int)), v, none] ∧ 1 ≤ s ∧ s ≤ p ∧ Rep T0 p r s (r * (s : Int) / (p : Int)) ∧ s ∣ p ∧ (s = p ∨ s ≤ i) ∧ ∀ s' c', 0 < s' → s' < s → s' ≤ i → s' ∣ p → ¬ Rep T0 p r s' c')
      ⟨rfl, p, none, rfl, p0, Nat.le_refl _, ?_, Nat.dvd_refl _, .inl rfl, fun s' c' h1 _ h3 => absurd h1 (by omega)⟩ ?_ ?_⟩
    · rw [Int.mul_ediv_cancel _ (by omega)]
      exact rep_self o
    · rintro i σ H' hi ⟨rfl, s, v, rfl, s0, s1, hs, sd, sl, hm⟩
      have hi : i < p - 1 := by omega
      have one : (1 : Int) + (i : Int) = ((1 + i : Nat) : Int) := rfl
      have more : (∀ c', 1 + i ∣ p → ¬ Rep T0 p r (1 + i) c') → ∀ s' c', 0 < s' → s' < s → s' ≤ i + 1 → s' ∣ p → ¬ Rep T0 p r s' c' := by
        intro h s' c' h1 h2 h3 h4
        by_cases q : s' = 1 + i
        · subst q
          exact h c' h4
        · exact hm s' c' h1 h2 (by omega) h4
      have stay : s = p ∨ s ≤ i + 1 := sl.elim .inl fun h => .inr (by omega)
      refine ⟨_, rfl, _, rfl, rfl, _, rfl, ite3 (fun e => ?_) (fun e => ?_)⟩
      · have e : s = p := Int.ofNat.inj (V.int.inj e)
        refine ⟨_, rfl, .inl ⟨_, rfl, _, rfl, _, _, rfl, rfl, (by omega), rfl, _, rfl, ite3 (fun e2 => ?_) (fun e2 => ?_)⟩⟩
        · have dv : 1 + i ∣ p := dvd_of (V.int.inj e2)
          refine ⟨_, rfl, _, rfl, _, _, rfl, rfl, b.mulR' o, .inl ⟨_, rfl, _, rfl, _, _, rfl, rfl, (by omega), rfl, _, rfl, ite3 (fun e3 => ?_) (fun e3 => ?_)⟩⟩
          · refine ⟨_, rfl, _, rfl, _, rfl, _, rfl, _, _, rfl, rfl, b.mulR' o, _, rfl, _, _, rfl, rfl, b.div o, d, T0, p, r, 1 + i, _, rfl, R, o, b, fun bb hb => ⟨_, rfl, ?_⟩⟩
            cases bb with
            | true => exact iteT ⟨_, rfl, rfl, 1 + i, _, rfl, by omega, by omega, hb.mp rfl, dv, .inr (by omega), fun s' c' h1 h2 h3 h4 => hm s' c' h1 (by omega) (by omega) h4⟩
            | false => exact iteF ⟨rfl, s, _, rfl, s0, s1, hs, sd, stay, more fun c' d' rep => by
                have q := (rep_quot o d' rep).1
                have h := hb.mpr (by rw [← q] at rep; exact rep)
                cases h⟩
          · exact ⟨rfl, s, _, rfl, s0, s1, hs, sd, stay, more fun c' d' rep => e3 (congrArg V.int ((Int.fmod_eq_emod_of_nonneg _ (by omega)).trans (rep_quot o d' rep).2))⟩
        · exact iteF ⟨rfl, s, _, rfl, s0, s1, hs, sd, stay, more fun c' d' rep => e2 (congrArg V.int (of_dvd d'))⟩
      · refine iteF ⟨rfl, s, _, rfl, s0, s1, hs, sd, stay, fun s' c' h1 h2 h3 h4 => ?_⟩
        have ne : s ≠ p := fun q => e (by rw [q])
        exact hm s' c' h1 h2 (by omega) h4
    · rintro σ H' ⟨rfl, s, v, rfl, s0, s1, hs, sd, sl, hm⟩
      exact ⟨rfl, s, v, rfl, s0, s1, hs, sd, fun s' c' h1 h2 h4 => hm s' c' h1 h2 (by omega) h4⟩
  · rintro σ H' ⟨rfl, s, v, rfl, s0, s1, hs, sd, hm⟩
    have c0 : 0 ≤ r * (s : Int) / (p : Int) := Int.ediv_nonneg (Int.mul_nonneg r0 (by omega)) (by omega)
    have c1 : r * (s : Int) / (p : Int) ≤ r := by
      have h1 : r * (s : Int) ≤ r * (p : Int) := Int.mul_le_mul_of_nonneg_left (by omega) r0
      have h2 := Int.ediv_le_ediv (show (0 : Int) < (p : Int) by omega) h1
      rw [Int.mul_ediv_cancel _ (by omega)] at h2
      exact h2
    refine ⟨_, rfl, _, rfl, _, _, rfl, rfl, b.mulR' o, _, rfl, _, _, rfl, rfl, b.div o, ?_⟩
    have all := rep_all o hs
    obtain ⟨c, ec⟩ : ∃ c, c = r * (s : Int) / (p : Int) := ⟨_, rfl⟩
    rw [← ec] at c0 c1 all
    refine ⟨LeastW d t T0 p r s c v H', ⟨T0.length - p, by rw [ec]; rfl, rfl, Nat.le_refl _, all⟩, ?_⟩
    rintro m σ H'' ⟨rfl, rfl, al, ha⟩
    -- the end, from any start
    have fin : (m = 0 ∨ vl T0 p r (m - 1 + s) ≠ T0.getD (m - 1) 0 + c) → ∀ (H2 : Hp) (t' : Addr), Same H'' H2 → H2 t' = some (.tup ((T0.take (m + s)).map V.int)) → ∀ q, H2 q = none → Q (.ref q) (upd H2 q (.tup [.ref t', .int (s : Int), .int c])) := by
      intro st H2 t' sm h2 q nq
      have sq := same_upd (o := .tup [.ref t', .int (s : Int), .int c]) nq
      refine k _ q (T0.take (m + s)) s c (sm.trans sq) ⟨t', upd_same, sq _ _ h2⟩ ⟨?_, s1, c1, fun i hi => ?_⟩ (cut_short o s0 sd al c0 ha hm st) (cut_vl s0 (by omega) ha)
      · rw [List.length_take]
        omega
      · rw [List.length_take] at hi
        exact getD_take (by omega)
    refine ⟨_, rfl, _, _, rfl, rfl, _, rfl, ?_⟩
    by_cases e : (0 : Int) < (m : Int)
    · have e1 : (m : Int) - 1 = ((m - 1 : Nat) : Int) := by omega
      have e2 : (m : Int) - 1 + (s : Int) = ((m - 1 + s : Nat) : Int) := by omega
      refine iteP e ⟨_, rfl, _, rfl, _, _, rfl, rfl, _, rfl, _, _, rfl, rfl, d, T0, p, r, m - 1 + s, congrArg (fun z => [V.ref d, V.int z]) e2, R, o, b, _, rfl, _, rfl, _, _, rfl, rfl, _, _, _, _, rfl, rfl, SqT.of ht, at_of e1 (get_int (by omega)), _, rfl, _, _, rfl, rfl, rfl, _, rfl, ?_⟩
      by_cases e3 : vl T0 p r (m - 1 + s) = T0.getD (m - 1) 0 + c
      · refine iteP (congrArg V.int e3) ⟨LeastW d t T0 p r s c v H'' (m - 1), fun σ' H3 hw => ⟨m - 1, by omega, hw⟩, _, rfl, _, _, rfl, rfl, ?_⟩
        refine ⟨by rw [← e1]; rfl, rfl, by omega, fun y hy => ?_⟩
        by_cases q : y = m - 1
        · rw [q, e3, vl_lt (by omega)]
        · exact ha y (by omega)
      · refine iteN (fun q => e3 (V.int.inj q)) ?_
        refine ⟨_, rfl, _, rfl, _, rfl, _, _, rfl, rfl, _, rfl, _, _, rfl, SqT.of ht, fun wh => ?_, fun _ p' np' => ?_⟩
        · have w2 : min (m + s) (T0.map V.int).length = (T0.map V.int).length := (HT.sIx_nat _ _ (m + s)).symm.trans wh.2
          rw [List.length_map] at w2
          exact ⟨_, _, rfl, SqT.of ht, _, rfl, _, rfl, (by show 3 ≤ sizeLine; decide), fun q nq => fin (.inr e3) _ t (Same.refl _) (by rw [List.take_of_length_le (by omega)]; exact ht) q nq⟩
        · exact ⟨_, _, rfl, SqT.of upd_same, _, rfl, _, rfl, (by show 3 ≤ sizeLine; decide), fun q nq => fin (.inr e3) _ p' (same_upd np') (by rw [upd_same, show cutV (T0.map V.int) none (some ((m : Int) + (s : Int))) = cutV (T0.map V.int) none (some ((m + s : Nat) : Int)) from rfl, cut_all, List.map_take]) q nq⟩
    · refine iteN e (iteF ?_)
      refine ⟨_, rfl, _, rfl, _, rfl, _, _, rfl, rfl, _, rfl, _, _, rfl, SqT.of ht, fun wh => ?_, fun _ p' np' => ?_⟩
      · have w2 : min (m + s) (T0.map V.int).length = (T0.map V.int).length := (HT.sIx_nat _ _ (m + s)).symm.trans wh.2
        rw [List.length_map] at w2
        exact ⟨_, _, rfl, SqT.of ht, _, rfl, _, rfl, (by show 3 ≤ sizeLine; decide), fun q nq => fin (.inl (by omega)) _ t (Same.refl _) (by rw [List.take_of_length_le (by omega)]; exact ht) q nq⟩
      · exact ⟨_, _, rfl, SqT.of upd_same, _, rfl, _, rfl, (by show 3 ≤ sizeLine; decide), fun q nq => fin (.inl (by omega)) _ p' (same_upd np') (by rw [upd_same, show cutV (T0.map V.int) none (some ((m : Int) + (s : Int))) = cutV (T0.map V.int) none (some ((m + s : Nat) : Int)) from rfl, cut_all, List.map_take]) q nq⟩
end
end Sm

set_option Elab.async false
set_option linter.all false
set_option maxRecDepth 100000
set_option maxHeartbeats 16000000
namespace Sm
open PySem PySem.Spec PyProof.Rows L2
section
variable {P : Program} {w : World} {K : PySem.W.Frag} {mg : Str → Option Value} {base : Heap}
abbrev s_l_rule : Stmt := topS 32
abbrev N_l_rule : List Str := ["_law_deck_here", "_law_long", "_law_wide", "_law_tall", "_law_start", "_law_period", "_law_table", "_law_k", "_law_rise"]
theorem sc_l_rule : FnScope N_l_rule ["_law_deck_here", "_law_long", "_law_wide", "_law_tall"] (defScope s_l_rule) := ⟨rfl, rfl, rfl, by decide +kernel, rfl, by decide +kernel, by decide +kernel⟩
/-- what a draw needs of the deck, and an item of a list of four -/
theorem list_ne {H : Hp} {p l b : Addr} {n : Int} {xs : List V} (D : Deck H p l n) (h : H b = none) : b ≠ p ∧ b ≠ l := D.lne h
theorem ok_l_rule (T : Txt mg) (D : Df K mg "_law_rule" s_l_rule ["_law_deck_here", "_law_long", "_law_wide", "_law_tall"]) (C_l_least : Cal P w K mg base "_law_least" ["_law_rule_here"] 3 (sp_l_least K)) (C_l_draw : Cal P w K mg base "_law_draw" ["_law_deck_here", "_law_many"] 1 (sp_l_draw K)) : Cal P w K mg base "_law_rule" ["_law_deck_here", "_law_long", "_law_wide", "_law_tall"] 4 (sp_l_rule K) := by
  obtain ⟨f_l_least, fd_l_least, G_l_least, m_l_least, k_l_least, b_l_least⟩ := C_l_least
  obtain ⟨f_l_draw, fd_l_draw, G_l_draw, m_l_draw, k_l_draw, b_l_draw⟩ := C_l_draw
  refine D.cal sc_l_rule (fun vs H Q E h => ?_) (fun f cdv A outer s H vs Q E hr h => ?_)
  · obtain ⟨p, l, n, long, wide, tall, M, rfl, _⟩ := h
    rfl
  obtain ⟨p, l, n, long, wide, tall, M, rfl, D0, n0, n1, lo0, lo1, wi0, wi1, ta0, ta1, hM, M1, k⟩ := h
  refine ⟨_, (pss_cons (ps_par (i := 4) (j := 5) (by rfl) sc_l_rule.nd rfl rfl (by decide) rfl rfl (pa_cons (pe_call G_l_draw (hr.mono (by decide)) (by rfl) m_l_draw k_l_draw b_l_draw .nil pass0 (pa_cons (pv 0) (pa_cons (pe_op op_add (pv 1) pe_int) pa_nil))) (pa_cons (pe_op op_add pe_int (pe_call G_l_draw (hr.mono (by decide)) (by rfl) m_l_draw k_l_draw b_l_draw .nil pass0 (pa_cons (pv 0) (pa_cons (pv 2) pa_nil)))) pa_nil)) (by rfl))
    (pss_cons (ps_set (i := 6) sc_l_rule.nd rfl (Or.inl rfl) (pe_lst (pa_cons (pe_ix ix_list (pe_lst (pa_cons pe_int (pa_cons pe_int (pa_cons pe_int (pa_cons (pe_call G_l_draw (hr.mono (by decide)) (by rfl) m_l_draw k_l_draw b_l_draw .nil pass0 (pa_cons (pv 0) (pa_cons (pe_op op_add (pv 3) pe_int) pa_nil))) pa_nil))))) (pe_call G_l_draw (hr.mono (by decide)) (by rfl) m_l_draw k_l_draw b_l_draw .nil pass0 (pa_cons (pv 0) (pa_cons pe_int pa_nil))) (fun _ _ => rfl)) pa_nil)))
    (pss_cons (ps_for PassesOwn.never rfl (pi_range1 (by rfl) T.n_range (pa_cons (pe_op op_sub (pe_op op_add (pv 4) (pv 5)) pe_int) pa_nil)) (pg_name (i := 7) sc_l_rule.nd rfl (Or.inl rfl))
      (pss_one (ps_expr (pe_bm PySem.F.plainAttrs_list PySem.F.slot_list_append PySem.F.type_list_append mt_append (pv 6) (pa_cons (pe_op op_add (pe_ix ix_list (pv 6) (pe_un un_neg pe_int) (fun _ _ => rfl)) (pe_ix ix_list (pe_lst (pa_cons pe_int (pa_cons pe_int (pa_cons pe_int (pa_cons (pe_call G_l_draw (hr.mono (by decide)) (by rfl) m_l_draw k_l_draw b_l_draw .nil pass0 (pa_cons (pv 0) (pa_cons (pe_op op_add (pv 3) pe_int) pa_nil))) pa_nil))))) (pe_call G_l_draw (hr.mono (by decide)) (by rfl) m_l_draw k_l_draw b_l_draw .nil pass0 (pa_cons (pv 0) (pa_cons pe_int pa_nil))) (fun _ _ => rfl))) pa_nil)))))
    (pss_cons (ps_if (pt_cmpR op_eq (pe_call G_l_draw (hr.mono (by decide)) (by rfl) m_l_draw k_l_draw b_l_draw .nil pass0 (pa_cons (pv 0) (pa_cons pe_int pa_nil))) pe_int (nomark _)) (pss_one (ps_ret (pe_call G_l_least (hr.mono (by decide)) (by rfl) m_l_least k_l_least b_l_least .nil pass0 (pa_cons (pe_tup (pa_cons (pe_callTy call_tuple_of (by rfl) T.n_tuple (by decide +kernel) (pa_cons (pv 6) pa_nil)) (pa_cons pe_int (pa_cons pe_int pa_nil)))) pa_nil)))) pss_nil)
    (pss_cons (ps_set (i := 8) sc_l_rule.nd rfl (Or.inl rfl) (pe_op op_add (pe_op op_sub (pe_ix ix_list (pv 6) (pe_un un_neg pe_int) (fun _ _ => rfl)) (pe_ix ix_list (pv 6) (pv 4) (fun _ _ => rfl))) (pe_ix ix_list (pe_lst (pa_cons pe_int (pa_cons pe_int (pa_cons pe_int (pa_cons (pe_call G_l_draw (hr.mono (by decide)) (by rfl) m_l_draw k_l_draw b_l_draw .nil pass0 (pa_cons (pv 0) (pa_cons (pe_op op_add (pv 3) pe_int) pa_nil))) pa_nil))))) (pe_call G_l_draw (hr.mono (by decide)) (by rfl) m_l_draw k_l_draw b_l_draw .nil pass0 (pa_cons (pv 0) (pa_cons pe_int pa_nil))) (fun _ _ => rfl))))
    (pss_one (ps_ret (pe_call G_l_least (hr.mono (by decide)) (by rfl) m_l_least k_l_least b_l_least .nil pass0 (pa_cons (pe_tup (pa_cons (pe_callTy call_tuple_of (by rfl) T.n_tuple (by decide +kernel) (pa_cons (pv 6) pa_nil)) (pa_cons (pv 5) (pa_cons (pv 8) pa_nil)))) pa_nil))))))))), ?_⟩
  -- start, period
  refine ⟨_, rfl, _, rfl, _, _, rfl, rfl, p, l, n, _, rfl, D0, n0, by omega, by omega, by omega, fun rs H1 rs0 rs1 f1 D1 => ?_⟩
  refine ⟨_, rfl, _, rfl, p, l, n + 1, _, rfl, D1, by omega, by omega, by omega, by omega, fun rp H2 rp0 rp1 f2 D2 => ?_⟩
  refine ⟨_, _, rfl, rfl, _, _, rfl, ?_⟩
  -- the table's first item
  refine ⟨_, rfl, _, rfl, _, _, rfl, rfl, p, l, n + 1 + 1, _, rfl, D2, by omega, by omega, by omega, by omega, fun a H3 a0 a1 f3 D3 => ?_⟩
  refine ⟨(by show 4 ≤ sizeLine; decide), fun b nb => ?_⟩
  have sb := same_upd (o := .lst [.int 0, .int 0, .int 0, .int a]) nb
  obtain ⟨bp, bl⟩ := D3.lne nb
  refine ⟨_, rfl, p, l, n + 1 + 1 + 1, 4, rfl, D3.same sb, by omega, by omega, by omega, by omega, fun i4 H4 i40 i41 f4 D4 => ?_⟩
  obtain ⟨z, hz, zz⟩ := pick4 (a := 0) (b := 0) (c := 0) (d := a) i40 i41
  have z0 : 0 ≤ z := by omega
  have z1 : z ≤ tall + 1 := by omega
  refine ⟨_, _, _, _, rfl, rfl, SqL.of (f4 b _ bp bl upd_same), at_of (j := i4.toNat) (by omega) hz, ?_⟩
  refine ⟨(by show 1 ≤ sizeLine; decide), fun L nL => ?_⟩
  obtain ⟨Lp, Ll⟩ := D4.lne nL
  have sL := same_upd (o := .lst [.int z]) nL
  have fr : Fr p l H (upd H4 L (.lst [.int z])) := (f1.trans (f2.trans (f3.trans ((Same.fr sb).trans f4)))).trans (Same.fr sL)
  have D5 := D4.same sL
  have hn : ∀ b o, H b = some o → b ≠ L := by
    intro b o hb e
    subst e
    by_cases q1 : b = p
    · exact Lp q1
    · by_cases q2 : b = l
      · exact Ll q2
      · have := (f1.trans (f2.trans (f3.trans ((Same.fr sb).trans f4)))) b o q1 q2 hb
        rw [nL] at this
        cases this
  -- the loop
  refine ⟨_, rfl, _, rfl, _, _, rfl, rfl, _, _, rfl, rfl, _, rfl, (by omega), (by omega), ?_⟩
  refine for_range (lo := 0) (n := _) (fun i σ H' => ∃ (n' : Int) (T0 : List Int) (v : Option V), σ = [some (.ref p), some (.int long), some (.int wide), some (.int tall), some (.int rs), some (.int (1 + rp)), some (.ref L), v, none] ∧
      Deck H' p l n' ∧ n ≤ n' ∧ n' ≤ n + 4 + 2 * (i : Int) ∧ Fr p l H H' ∧ H' L = some (.lst (T0.map V.int)) ∧ T0.length = i + 1 ∧ Tb (tall + 1) T0)
    ⟨_, [z], none, rfl, D5, by omega, by omega, fr, upd_same, rfl, ⟨by omega, by show 0 < 1; decide, fun i hi => ?_, fun i hi => ?_, fun i hi => ?_⟩⟩ ?_ ?_
  · have hi : i < 1 := hi
    rw [show i = 0 by omega]
    exact z0
  · have hi : i + 1 < 1 := hi
    omega
  · have hi : i < 1 := hi
    rw [show i = 0 by omega]
    show z ≤ (tall + 1) * (((0 : Nat) : Int) + 1)
    rw [show (((0 : Nat) : Int) + 1) = 1 from rfl, Int.mul_one]
    exact z1
  · rintro i σ H' hi ⟨n', T0, v, rfl, D', m0, m1, f', hL, hT, tb⟩
    have hi : i < (rs + (1 + rp) - 1).toNat := hi
    refine ⟨_, rfl, .inl ⟨rfl, _, SqL.of hL⟩, ?_⟩
    refine ⟨_, rfl, _, rfl, _, _, _, _, rfl, rfl, SqL.of hL, last_int tb.ne, ?_⟩
    refine ⟨_, rfl, _, rfl, _, _, rfl, rfl, p, l, n', _, rfl, D', by omega, by omega, by omega, by omega, fun a' H6 a0' a1' f6 D6 => ?_⟩
    refine ⟨(by show 4 ≤ sizeLine; decide), fun b' nb' => ?_⟩
    have sb' := same_upd (o := .lst [.int 0, .int 0, .int 1, .int a']) nb'
    obtain ⟨bp', bl'⟩ := D6.lne nb'
    refine ⟨_, rfl, p, l, n' + 1, 4, rfl, D6.same sb', by omega, by omega, by omega, by omega, fun i5 H7 i50 i51 f7 D7 => ?_⟩
    obtain ⟨c, hc, cc⟩ := pick4 (a := 0) (b := 0) (c := 1) (d := a') i50 i51
    have c0 : 0 ≤ c := by omega
    have c1 : c ≤ tall + 1 := by omega
    have hL7 : H7 L = some (.lst (T0.map V.int)) := f7 L _ Lp Ll (sb' _ _ (f6 L _ Lp Ll hL))
    refine ⟨_, _, _, _, rfl, rfl, SqL.of (f7 b' _ bp' bl' upd_same), at_of (j := i5.toNat) (by omega) hc, _, _, rfl, rfl, L, _, _, rfl, rfl, hL7, ?_, ?_⟩
    · rw [List.length_map, hT]
      exact small1000 (by omega)
    · have fL : Fr p l H (upd H7 L (.lst ((T0 ++ [T0.getD (T0.length - 1) 0 + c]).map V.int))) := by
        intro b o h1 h2 hb
        rw [upd_ne (hn b o hb)]
        exact (f'.trans (f6.trans ((Same.fr sb').trans f7))) b o h1 h2 hb
      refine ⟨n' + 1 + 1, T0 ++ [T0.getD (T0.length - 1) 0 + c], _, rfl, ⟨by rw [upd_ne Lp.symm]; exact D7.hp, ?_⟩, by omega, by omega, ?_, ?_, ?_, tb.more c0 c1⟩
      · obtain ⟨cells, q1, q2⟩ := D7.hl
        exact ⟨cells, by rw [upd_ne Ll.symm]; exact q1, q2⟩
      · rw [List.map_append] at fL
        exact fL
      · rw [upd_same, List.map_append]
        rfl
      · rw [List.length_append, List.length_singleton, hT]
  · rintro σ H' ⟨n', T0, v, rfl, D', m0, m1, f', hL, hT, tb⟩
    have hlen : (T0.length : Int) = rs + (1 + rp) := by omega
    have small : T0.length ≤ 300 := by omega
    have line : T0.length ≤ sizeLine := Nat.le_trans small (by decide)
    have hN : (T0.length : Int) ≤ long + wide := by omega
    have topI := tb.all hN hM
    have s240 : T0.length ≤ 240 := by omega
    have C0 := tb.c0
    have len9 : ∀ {T : List Int}, T.length ≤ T0.length → (T.length : Int) ≤ long + wide := fun {T} h => by omega
    have m0 : 0 ≤ M := by have := topI 0 tb.ne; have := tb.nn 0 tb.ne; omega
    refine ⟨_, rfl, p, l, n', 5, rfl, D', by omega, by omega, by omega, by omega, fun r5 H6 r50 r51 f6 D6 => ?_⟩
    have hL6 := f6 L _ Lp Ll hL
    refine ⟨rfl, _, rfl, ite3 (fun e => ?_) (fun e => ?_)⟩
    · -- a level rule
      refine ⟨_, rfl, L, _, rfl, .inl ⟨SqL.of hL6, fun t nt => ?_⟩⟩
      have st := same_upd (o := .tup (T0.map V.int)) nt
      refine ⟨(by show 3 ≤ sizeLine; decide), fun d nd => ?_⟩
      have sd := same_upd (o := .tup [.ref t, .int 1, .int 0]) nd
      refine ⟨d, T0, 1, 0, rfl, ⟨t, upd_same, sd _ _ upd_same⟩, tb.level, (tb.rsM hN hM s240 (by omega) m0).rb (by omega), fun H9 d' T' p' r' s9 hr' hc hsh hv => ?_⟩
      have s := st.trans (sd.trans s9)
      exact k H9 d' T' p' r' (n' + 1) (f'.trans (f6.trans (Same.fr s))) (D6.same s) (by omega) (by omega) hr' (hc.rs (tb.rsM hN hM s240 (by omega) m0)) (len9 hc.len) hsh
    · -- a rising rule
      have gs : (T0.map V.int)[rs.toNat]? = some (.int (T0.getD rs.toNat 0)) := get_int (by omega)
      refine ⟨_, rfl, _, rfl, _, _, _, _, rfl, rfl, SqL.of hL6, last_int tb.ne, _, rfl, _, rfl, _, _, _, _, rfl, rfl, SqL.of hL6, at_of (j := rs.toNat) (by omega) gs, _, _, rfl, rfl, ?_⟩
      refine ⟨_, rfl, _, rfl, _, _, rfl, rfl, p, l, n' + 1, _, rfl, D6, by omega, by omega, by omega, by omega, fun a' H7 a0' a1' f7 D7 => ?_⟩
      refine ⟨(by show 4 ≤ sizeLine; decide), fun b' nb' => ?_⟩
      have sb' := same_upd (o := .lst [.int 0, .int 0, .int 1, .int a']) nb'
      obtain ⟨bp', bl'⟩ := D7.lne nb'
      refine ⟨_, rfl, p, l, n' + 1 + 1, 4, rfl, D7.same sb', by omega, by omega, by omega, by omega, fun i5 H8 i50 i51 f8 D8 => ?_⟩
      obtain ⟨c, hc, cc⟩ := pick4 (a := 0) (b := 0) (c := 1) (d := a') i50 i51
      have c0 : 0 ≤ c := by omega
      have c1 : c ≤ tall + 1 := by omega
      have hL8 : H8 L = some (.lst (T0.map V.int)) := f8 L _ Lp Ll (sb' _ _ (f7 L _ Lp Ll hL6))
      refine ⟨_, _, _, _, rfl, rfl, SqL.of (f8 b' _ bp' bl' upd_same), at_of (j := i5.toNat) (by omega) hc, _, _, rfl, rfl, ?_⟩
      refine ⟨_, rfl, L, _, rfl, .inl ⟨SqL.of hL8, fun t nt => ?_⟩⟩
      have st := same_upd (o := .tup (T0.map V.int)) nt
      refine ⟨_, rfl, _, rfl, (by show 3 ≤ sizeLine; decide), fun d nd => ?_⟩
      have ep : (1 : Int) + rp = (((1 + rp).toNat : Nat) : Int) := by omega
      have er : T0.length - (1 + rp).toNat = rs.toNat := by omega
      have ok := tb.rising (p := (1 + rp).toNat) (c := c) (by omega) (by omega) c0
      rw [er] at ok
      have t1 := topI (T0.length - 1) (by omega)
      have t2 := tb.nn rs.toNat (by omega)
      have sd := same_upd (o := .tup [.ref t, .int (1 + rp), .int (T0.getD (T0.length - 1) 0 - T0.getD rs.toNat 0 + c)]) nd
      refine ⟨d, T0, (1 + rp).toNat, T0.getD (T0.length - 1) 0 - T0.getD rs.toNat 0 + c, rfl, ⟨t, by rw [← ep]; exact upd_same, sd _ _ upd_same⟩, ok, (tb.rsM hN hM s240 (by omega) (by omega)).rb (by omega), fun H9 d' T' p' r' s9 hr' hc hsh hv => ?_⟩
      have s := st.trans (sd.trans s9)
      exact k H9 d' T' p' r' (n' + 1 + 1 + 1) (f'.trans (f6.trans (f7.trans ((Same.fr sb').trans (f8.trans (Same.fr s)))))) (D8.same s) (by omega) (by omega) hr' (hc.rs (tb.rsM hN hM s240 (by omega) (by omega))) (len9 hc.len) hsh
end
end Sm

set_option maxHeartbeats 4000000
namespace Sm
/-! a list that comes back when it is turned; the steps of the last period -/
def Rot (I : List Int) (s : Nat) : Prop := I = I.drop s ++ I.take s
structure Cyc (I : List Int) (s : Nat) : Prop where
  s0 : 0 < s
  s1 : s ≤ I.length
  dv : s ∣ I.length
  rot : s < I.length → Rot I s
  least : ∀ t, 0 < t → t < s → t ∣ I.length → ¬ Rot I t
def stepsOf (T : List Int) (p : Nat) (r : Int) : List Int := (List.range p).map fun i => vl T p r (T.length - p + i + 1) - vl T p r (T.length - p + i)
theorem stepsOf_len (T : List Int) (p : Nat) (r : Int) : (stepsOf T p r).length = p := by
  unfold stepsOf
  rw [List.length_map, List.length_range]
theorem stepsOf_get {T : List Int} {p : Nat} {r : Int} {i : Nat} (h : i < p) : (stepsOf T p r)[i]? = some (vl T p r (T.length - p + i + 1) - vl T p r (T.length - p + i)) := by
  unfold stepsOf
  rw [List.getElem?_map, List.getElem?_range h]
  rfl
theorem rot_get {I : List Int} {s i : Nat} (h : Rot I s) (hs : s ≤ I.length) (hi : i < I.length) : I[i]? = if i + s < I.length then I[i + s]? else I[i + s - I.length]? := by
  have e : I[i]? = (I.drop s ++ I.take s)[i]? := congrArg (fun l => l[i]?) h
  rw [e, List.getElem?_append, List.length_drop]
  by_cases q : i < I.length - s
  · rw [if_pos q, if_pos (by omega), List.getElem?_drop, Nat.add_comm]
  · rw [if_neg q, if_neg (by omega), List.getElem?_take_of_lt (by omega), show i - (I.length - s) = i + s - I.length by omega]
theorem of_rot {I : List Int} {s : Nat} (hs : s ≤ I.length) (h : ∀ i, i < I.length → I[i]? = if i + s < I.length then I[i + s]? else I[i + s - I.length]?) : Rot I s := by
  refine List.ext_getElem? fun i => ?_
  by_cases hi : i < I.length
  · rw [h i hi, List.getElem?_append, List.length_drop]
    by_cases q : i < I.length - s
    · rw [if_pos q, if_pos (by omega), List.getElem?_drop, Nat.add_comm]
    · rw [if_neg q, if_neg (by omega), List.getElem?_take_of_lt (by omega), show i - (I.length - s) = i + s - I.length by omega]
  · rw [List.getElem?_eq_none (by omega), List.getElem?_eq_none (by rw [List.length_append, List.length_drop, List.length_take]; omega)]
theorem rot_rep {T : List Int} {p s : Nat} {r : Int} (o : RuleW T p r) (sp : s < p) (h : Rot (stepsOf T p r) s) : Rep T p r s (vl T p r (T.length - p + s) - vl T p r (T.length - p)) := by
  have p0 := o.p0
  have p1 := o.p1
  have ln := stepsOf_len T p r
  have d : ∀ j, j < p → vl T p r (T.length - p + (j + s) + 1) - vl T p r (T.length - p + (j + s)) = vl T p r (T.length - p + j + 1) - vl T p r (T.length - p + j) := by
    intro j hj
    have e := rot_get h (by omega) (i := j) (by omega)
    rw [ln, stepsOf_get hj] at e
    by_cases q : j + s < p
    · rw [if_pos q, stepsOf_get q] at e
      exact (Option.some.inj e).symm
    · rw [if_neg q, stepsOf_get (by omega)] at e
      have e := Option.some.inj e
      have e1 := vl_add p0 p1 (r := r) (x := T.length - p + (j + s - p) + 1) (by omega)
      have e2 := vl_add p0 p1 (r := r) (x := T.length - p + (j + s - p)) (by omega)
      rw [show T.length - p + (j + s - p) + 1 + p = T.length - p + (j + s) + 1 by omega] at e1
      rw [show T.length - p + (j + s - p) + p = T.length - p + (j + s) by omega] at e2
      omega
  have all : ∀ j, j ≤ p → vl T p r (T.length - p + j + s) = vl T p r (T.length - p + j) + (vl T p r (T.length - p + s) - vl T p r (T.length - p)) := by
    intro j
    induction j with
    | zero => intro _; simp; omega
    | succ j ih =>
      intro hj
      have a := ih (by omega)
      have b := d j (by omega)
      rw [show T.length - p + (j + s) + 1 = T.length - p + (j + 1) + s by omega, show T.length - p + (j + s) = T.length - p + j + s by omega] at b
      rw [show T.length - p + (j + 1) = T.length - p + j + 1 by omega] at b ⊢
      omega
  intro i h1 h2
  have := all (i - (T.length - p)) (by omega)
  rw [show T.length - p + (i - (T.length - p)) = i by omega] at this
  rw [this, vl_lt h2]
theorem rep_rot {T : List Int} {p s : Nat} {r c : Int} (o : RuleW T p r) (sp : s ≤ p) (h : Rep T p r s c) : Rot (stepsOf T p r) s := by
  have p0 := o.p0
  have p1 := o.p1
  have ln := stepsOf_len T p r
  have all := rep_allW o h
  refine of_rot (by omega) fun i hi => ?_
  rw [ln] at hi ⊢
  rw [stepsOf_get hi]
  have a := all (T.length - p + i) (by omega)
  have b := all (T.length - p + i + 1) (by omega)
  by_cases q : i + s < p
  · rw [if_pos q, stepsOf_get q]
    rw [show T.length - p + i + s = T.length - p + (i + s) by omega] at a
    rw [show T.length - p + i + 1 + s = T.length - p + (i + s) + 1 by omega] at b
    congr 1
    omega
  · rw [if_neg q, stepsOf_get (by omega)]
    have e1 := vl_add p0 p1 (r := r) (x := T.length - p + (i + s - p) + 1) (by omega)
    have e2 := vl_add p0 p1 (r := r) (x := T.length - p + (i + s - p)) (by omega)
    rw [show T.length - p + (i + s - p) + 1 + p = T.length - p + i + 1 + s by omega] at e1
    rw [show T.length - p + (i + s - p) + p = T.length - p + i + s by omega] at e2
    congr 1
    omega
/-- the least turn of the steps is the rule's least turn -/
theorem cyc_rule {T : List Int} {p s : Nat} {r : Int} (o : RuleOk T p r) (h : Cyc (stepsOf T p r) s) : 0 < s ∧ s ≤ p ∧ s ∣ p ∧ Rep T p r s (r * (s : Int) / (p : Int)) ∧ ∀ s' c', 0 < s' → s' < s → s' ∣ p → ¬ Rep T p r s' c' := by
  obtain ⟨s0, s1, dv, rot, least⟩ := h
  rw [stepsOf_len] at s1 dv rot least
  have p0 := o.p0
  refine ⟨s0, s1, dv, ?_, fun s' c' h1 h2 h3 rep => least s' h1 h2 h3 (rep_rot o.w (by omega) rep)⟩
  by_cases q : s < p
  · have rep := rot_rep o.w q (rot q)
    rw [(rep_quot o dv rep).1]
    exact rep
  · obtain rfl : s = p := by omega
    rw [Int.mul_ediv_cancel _ (by omega)]
    exact rep_self o
/-! values told by a function, as a rule -/
theorem tab_getD {f : Nat → Int} {n i : Nat} (h : i < n) : ((List.range n).map f).getD i 0 = f i := by
  rw [List.getD_eq_getElem?_getD, List.getElem?_map, List.getElem?_range h]
  rfl
theorem tab_len {f : Nat → Int} {n : Nat} : ((List.range n).map f).length = n := by rw [List.length_map, List.length_range]
theorem tab_vl {f : Nat → Int} {B t : Nat} {R : Int} (t0 : 0 < t) (h : ∀ x, B ≤ x → f (x + t) = f x + R) : ∀ x, vl ((List.range (B + t)).map f) t R x = f x := by
  intro x
  induction x using Nat.strongRecOn with
  | _ x ih =>
    by_cases q : x < B + t
    · rw [vl_lt (by rw [tab_len]; exact q), tab_getD q]
    · rw [vl_step t0 (by rw [tab_len]; omega) (by rw [tab_len]; omega), ih (x - t) (by omega)]
      have := h (x - t) (by omega)
      rw [show x - t + t = x by omega] at this
      omega
theorem tab_ok {f : Nat → Int} {B t : Nat} {R : Int} (t0 : 0 < t) (R0 : 0 ≤ R) (h : ∀ x, B ≤ x → f (x + t) = f x + R) (f0 : ∀ x, 0 ≤ f x) (up : ∀ x, f x ≤ f (x + 1)) : RuleOk ((List.range (B + t)).map f) t R := by
  refine ⟨t0, by rw [tab_len]; omega, R0, fun i hi => ?_, fun i hi => ?_, ?_⟩
  · rw [tab_len] at hi
    rw [tab_getD hi]
    exact f0 i
  · rw [tab_len] at hi
    rw [tab_getD hi, tab_getD (by omega)]
    exact up i
  · rw [tab_len, tab_getD (by omega), tab_getD (by omega), show B + t - t = B by omega]
    have a := h B (Nat.le_refl _)
    have b := up (B + t - 1)
    rw [show B + t - 1 + 1 = B + t by omega] at b
    omega
end Sm

set_option Elab.async false
set_option linter.all false
set_option maxRecDepth 100000
set_option maxHeartbeats 16000000
namespace Sm
open PySem PySem.Spec PyProof.Rows L2
open C8 (pss_cut tCut)
theorem RS.vl {M : Int} {T : List Int} {p : Nat} {r : Int} (o : RuleOk T p r) (b : RS M T p r) (hM : 0 ≤ M) : ∀ x : Nat, vl T p r x ≤ M * ((x : Int) + 1) := by
  intro x
  induction x using Nat.strongRecOn with
  | _ x ih =>
    have p0 := o.p0
    have p1 := o.p1
    have r1 := b.r1
    by_cases q : x < T.length
    · rw [vl_lt q]
      have h1 := b.top x q
      have h2 : M * 1 ≤ M * ((x : Int) + 1) := Int.mul_le_mul_of_nonneg_left (by omega) hM
      omega
    · rw [vl_step p0 o.p1 (by omega)]
      have h1 := ih (x - p) (by omega)
      have h2 : M * (((x - p : Nat) : Int) + 1 + 1) ≤ M * ((x : Int) + 1) := Int.mul_le_mul_of_nonneg_left (by omega) hM
      rw [Int.mul_add M (((x - p : Nat) : Int) + 1) 1] at h2
      omega
def vals (T : List Int) (p : Nat) (r : Int) (n : Nat) : List Int := (List.range n).map (vl T p r)
def sp_begin_of (_ : PySem.W.Frag) : Sp := fun vs H Q _ => ∃ (d : Addr) (T : List Int) (p : Nat) (r : Int), vs = [.ref d] ∧ RuleAt H d T p r ∧ p ≤ T.length ∧ Q (.int ((T.length - p : Nat) : Int)) H
def sp_rise_in (_ : PySem.W.Frag) : Sp := fun vs H Q _ => ∃ (d : Addr) (T : List Int) (p : Nat) (r : Int) (t : Nat), vs = [.ref d, .int (t : Int)] ∧ RuleAt H d T p r ∧ RuleOk T p r ∧ RB T p r ∧ Q (.int (r * ((t / p : Nat) : Int))) H
def sp_common_turn (_ : PySem.W.Frag) : Sp := fun vs H Q _ => ∃ (d1 d2 : Addr) (T1 T2 : List Int) (p1 p2 : Nat) (r1 r2 : Int), vs = [.ref d1, .ref d2] ∧ RuleAt H d1 T1 p1 r1 ∧ RuleAt H d2 T2 p2 r2 ∧ p1 ≤ T1.length ∧ p2 ≤ T2.length ∧ p1 ≤ 40 ∧ p2 ≤ 40 ∧
  ∀ H' q, Same H H' → H' q = some (.tup [.int ((max (T1.length - p1) (T2.length - p2) : Nat) : Int), .int ((Nat.lcm p1 p2 : Nat) : Int)]) → Q (.ref q) H'
def sp_values_to (_ : PySem.W.Frag) : Sp := fun vs H Q _ => ∃ (d : Addr) (T : List Int) (p : Nat) (r : Int) (n : Nat), vs = [.ref d, .int (n : Int)] ∧ RuleAt H d T p r ∧ RuleOk T p r ∧ RB T p r ∧ n ≤ 20000 ∧
  ∀ H' q, Same H H' → (∀ b o, H b = some o → b ≠ q) → H' q = some (.lst ((vals T p r n).map V.int)) → Q (.ref q) H'
theorem ps_no {X : Cx} {st : Stmt} : PS X st (fun _ _ _ => False) := by
  constructor
  intros
  contradiction
section
variable {X : Cx}
theorem cr_lcm : CallR X (.builtin "math.lcm") (fun vs H Q => ∃ a b : Nat, vs = [.int (a : Int), .int (b : Int)] ∧ a < 1000000 ∧ b < 1000000 ∧ Q (.int ((Nat.lcm a b : Nat) : Int)) H) := by
  intro pins s σ H vs us Q I r h
  obtain ⟨a, b, rfl, ha, hb, q⟩ := h
  obtain ⟨t, u, rfl⟩ := Vals.int2 r
  refine PySem.W.mc_lcm (by omega) (by omega) fun _ => ?_
  rw [Int.natAbs_natCast, Int.natAbs_natCast]
  exact ⟨.int _, H, I.tok _, ⟨_, rfl⟩, q⟩
end
theorem vals_len (T : List Int) (p : Nat) (r : Int) (n : Nat) : (vals T p r n).length = n := by unfold vals; rw [List.length_map, List.length_range]
theorem vals_get {T : List Int} {p : Nat} {r : Int} {n i : Nat} (h : i < n) : ((vals T p r n).map V.int)[i]? = some (.int (vl T p r i)) := by
  unfold vals
  rw [List.getElem?_map, List.getElem?_map, List.getElem?_range h]
  rfl
theorem vals_take {T : List Int} {p : Nat} {r : Int} {n : Nat} (h : n ≤ T.length) : T.take n = vals T p r n := by
  refine List.ext_getElem? fun i => ?_
  unfold vals
  by_cases q : i < n
  · rw [List.getElem?_take_of_lt q, List.getElem?_map, List.getElem?_range q, List.getElem?_eq_getElem (by omega)]
    show some _ = some (vl T p r i)
    rw [vl_lt (by omega), List.getD_eq_getElem?_getD, List.getElem?_eq_getElem (by omega)]
    rfl
  · rw [List.getElem?_eq_none (by rw [List.length_take]; omega), List.getElem?_eq_none (by rw [List.length_map, List.length_range]; omega)]
theorem vals_succ {T : List Int} {p : Nat} {r : Int} {n : Nat} : vals T p r (n + 1) = vals T p r n ++ [vl T p r n] := by
  unfold vals
  rw [List.range_succ, List.map_append]
  rfl
section
variable {P : Program} {w : World} {K : PySem.W.Frag} {mg : Str → Option Value} {base : Heap}
abbrev s_begin_of : Stmt := topS 15
abbrev N_begin_of : List Str := ["rule"]
theorem sc_begin_of : FnScope N_begin_of ["rule"] (defScope s_begin_of) := ⟨rfl, rfl, rfl, by decide +kernel, rfl, by decide +kernel, by decide +kernel⟩
theorem ok_begin_of (T : Txt mg) (D : Df K mg "begin_of" s_begin_of ["rule"]) : Cal P w K mg base "begin_of" ["rule"] 1 (sp_begin_of K) := by
  refine D.cal sc_begin_of (fun vs H Q E h => ?_) (fun f cdv A outer s H vs Q E hr h => ?_)
  · obtain ⟨d, T0, p, r, rfl, _⟩ := h
    rfl
  obtain ⟨d, T0, p, r, rfl, ⟨t, hd, ht⟩, p1, k⟩ := h
  refine ⟨_, (pss_one (ps_ret (pe_op op_sub (pe_callB call_len_seq (by rfl) T.n_len (by decide +kernel) (pa_cons (pe_ix ix_tup (pv 0) pe_int (fun _ _ => rfl)) pa_nil)) (pe_ix ix_tup (pv 0) pe_int (fun _ _ => rfl))))), ?_⟩
  refine ⟨_, rfl, _, _, _, _, rfl, rfl, SqT.of hd, atI_nat (j := 0) rfl, _, _, rfl, .inr (SqT.of ht), _, rfl, _, _, _, _, rfl, rfl, SqT.of hd, atI_nat (j := 1) rfl, _, _, rfl, rfl, ?_⟩
  have e : (((T0.map V.int).length : Nat) : Int) - (p : Int) = ((T0.length - p : Nat) : Int) := by rw [len_int]; omega
  have k := k
  rw [← e] at k
  exact k
abbrev s_rise_in : Stmt := topS 16
abbrev N_rise_in : List Str := ["rule", "turn"]
theorem sc_rise_in : FnScope N_rise_in ["rule", "turn"] (defScope s_rise_in) := ⟨rfl, rfl, rfl, by decide +kernel, rfl, by decide +kernel, by decide +kernel⟩
theorem ok_rise_in (T : Txt mg) (D : Df K mg "rise_in" s_rise_in ["rule", "turn"]) : Cal P w K mg base "rise_in" ["rule", "turn"] 1 (sp_rise_in K) := by
  refine D.cal sc_rise_in (fun vs H Q E h => ?_) (fun f cdv A outer s H vs Q E hr h => ?_)
  · obtain ⟨d, T0, p, r, t, rfl, _⟩ := h
    rfl
  obtain ⟨d, T0, p, r, n, rfl, ⟨t, hd, ht⟩, o, b, k⟩ := h
  refine ⟨_, (pss_one (ps_ret (pe_op op_mul (pe_ix ix_tup (pv 0) pe_int (fun _ _ => rfl)) (pe_op op_fdivW (pv 1) (pe_ix ix_tup (pv 0) pe_int (fun _ _ => rfl)))))), ?_⟩
  exact ⟨_, rfl, _, _, _, _, rfl, rfl, SqT.of hd, atI_nat (j := 2) rfl, _, rfl, _, rfl, _, _, _, _, rfl, rfl, SqT.of hd, atI_nat (j := 1) rfl, _, _, rfl, rfl, b.div o, _, _, rfl, rfl, b.mulR' o, k⟩
abbrev s_common_turn : Stmt := topS 17
abbrev N_common_turn : List Str := ["one", "other"]
theorem sc_common_turn : FnScope N_common_turn ["one", "other"] (defScope s_common_turn) := ⟨rfl, rfl, rfl, by decide +kernel, rfl, by decide +kernel, by decide +kernel⟩
theorem ok_common_turn (T : Txt mg) (D : Df K mg "common_turn" s_common_turn ["one", "other"]) (C_begin_of : Cal P w K mg base "begin_of" ["rule"] 1 (sp_begin_of K)) : Cal P w K mg base "common_turn" ["one", "other"] 2 (sp_common_turn K) := by
  obtain ⟨f_begin_of, fd_begin_of, G_begin_of, m_begin_of, k_begin_of, b_begin_of⟩ := C_begin_of
  refine D.cal sc_common_turn (fun vs H Q E h => ?_) (fun f cdv A outer s H vs Q E hr h => ?_)
  · obtain ⟨d1, d2, T1, T2, p1, p2, r1, r2, rfl, _⟩ := h
    rfl
  obtain ⟨d1, d2, T1, T2, p1, p2, r1, r2, rfl, R1, R2, l1, l2, b1, b2, k⟩ := h
  obtain ⟨t1, hd1, ht1⟩ := id R1
  obtain ⟨t2, hd2, ht2⟩ := id R2
  refine ⟨_, (pss_one (ps_ret (pe_tup (pa_cons (pe_callB (call_max2 rfl) (by rfl) T.n_max (by decide +kernel) (pa_cons (pe_call G_begin_of (hr.mono (by decide)) (by rfl) m_begin_of k_begin_of b_begin_of .nil pass0 (pa_cons (pv 0) pa_nil)) (pa_cons (pe_call G_begin_of (hr.mono (by decide)) (by rfl) m_begin_of k_begin_of b_begin_of .nil pass0 (pa_cons (pv 1) pa_nil)) pa_nil))) (pa_cons (pe_callBfun cr_lcm (by rfl) T.g_lcm (pa_cons (pe_ix ix_tup (pv 0) pe_int (fun _ _ => rfl)) (pa_cons (pe_ix ix_tup (pv 1) pe_int (fun _ _ => rfl)) pa_nil))) pa_nil))))), ?_⟩
  refine ⟨_, rfl, d1, T1, p1, r1, rfl, R1, l1, _, rfl, d2, T2, p2, r2, rfl, R2, l2, _, _, rfl, ?_⟩
  refine ⟨_, rfl, _, _, _, _, rfl, rfl, SqT.of hd1, atI_nat (j := 1) rfl, _, rfl, _, _, _, _, rfl, rfl, SqT.of hd2, atI_nat (j := 1) rfl, p1, p2, rfl, by omega, by omega, (by show 2 ≤ sizeLine; decide), fun q nq => ?_⟩
  have e : (if ((T2.length - p2 : Nat) : Int) > ((T1.length - p1 : Nat) : Int) then ((T2.length - p2 : Nat) : Int) else ((T1.length - p1 : Nat) : Int)) = ((max (T1.length - p1) (T2.length - p2) : Nat) : Int) := by
    split <;> omega
  refine k _ q (same_upd nq) ?_
  rw [← e]
  exact upd_same
abbrev s_values_to : Stmt := topS 12
abbrev N_values_to : List Str := ["rule", "count", "table", "period", "rise", "values", "x"]
theorem sc_values_to : FnScope N_values_to ["rule", "count"] (defScope s_values_to) := ⟨rfl, rfl, rfl, by decide +kernel, rfl, by decide +kernel, by decide +kernel⟩
theorem ok_values_to (T : Txt mg) (D : Df K mg "values_to" s_values_to ["rule", "count"]) : Cal P w K mg base "values_to" ["rule", "count"] 1 (sp_values_to K) := by
  refine D.cal sc_values_to (fun vs H Q E h => ?_) (fun f cdv A outer s H vs Q E hr h => ?_)
  · obtain ⟨d, T0, p, r, n, rfl, _⟩ := h
    rfl
  obtain ⟨d, T0, p, r, n, rfl, ⟨t, hd, ht⟩, o, b, nb, k⟩ := h
  have p0 := o.p0
  have p1 := o.p1
  have bl := b.len
  have ll := len_int T0
  have lm : (T0.map V.int).length = T0.length := List.length_map ..
  refine ⟨_, (pss_cons (ps_asg (pv 0) (pg_tup (by rfl) (pgs_cons (pg_name (i := 2) sc_values_to.nd rfl (Or.inl rfl)) (pgs_cons (pg_name (i := 3) sc_values_to.nd rfl (Or.inl rfl)) (pgs_cons (pg_name (i := 4) sc_values_to.nd rfl (Or.inl rfl)) pgs_nil)))))
    (pss_cut (ps_set (i := 5) sc_values_to.nd rfl (Or.inl rfl) (pe_callTy call_list_of (by rfl) T.n_list (by decide +kernel) (pa_cons (pe_slice sl_tupA (pv 2) po_none (po_some (pv 1))) pa_nil)))
    (pss_cons (ps_for PassesOwn.never rfl (pi_range2 (by rfl) T.n_range (pa_cons (pe_callB call_len_seq (by rfl) T.n_len (by decide +kernel) (pa_cons (pv 2) pa_nil)) (pa_cons (pv 1) pa_nil))) (pg_name (i := 6) sc_values_to.nd rfl (Or.inl rfl))
      (pss_one (ps_expr (pe_bm PySem.F.plainAttrs_list PySem.F.slot_list_append PySem.F.type_list_append mt_append (pv 5) (pa_cons (pe_op op_add (pe_ix ix_list (pv 5) (pe_op op_sub (pv 6) (pv 3)) (fun _ _ => rfl)) (pv 4)) pa_nil)))))
    (pss_one (ps_ret (pv 5)))))), ?_⟩
  refine ⟨_, rfl, _, _, rfl, SqT.of hd, rfl, _, _, rfl, _, _, rfl, _, _, rfl, rfl, ?_⟩
  refine ⟨fun σ H1 => ∃ q, σ = [some (.ref d), some (.int (n : Int)), some (.ref t), some (.int (p : Int)), some (.int r), some (.ref q), none] ∧ Same H H1 ∧ (∀ b o, H b = some o → b ≠ q) ∧ H1 q = some (.lst ((vals T0 p r (min n T0.length)).map V.int)), ?_, ?_⟩
  · have tk : (T0.map V.int).take n = (vals T0 p r (min n T0.length)).map V.int := by
      rw [← vals_take (Nat.min_le_right ..), ← List.map_take]
      congr 1
      rcases Nat.le_total n T0.length with h | h
      · rw [Nat.min_eq_left h]
      · rw [Nat.min_eq_right h, List.take_length, List.take_of_length_le h]
    refine ⟨_, rfl, _, rfl, _, rfl, _, _, rfl, SqT.of ht, fun wh => ?_, fun _ q1 nq1 => ?_⟩
    · have w2 : (T0.map V.int).take n = T0.map V.int := by
        have := wh.2
        rw [HT.sIx_nat] at this
        exact List.take_of_length_le (by omega)
      refine ⟨_, _, rfl, .inr (SqT.of ht), fun q nq => ⟨q, rfl, same_upd nq, fun b o h => ne_of_none h nq, ?_⟩⟩
      rw [upd_same, ← w2, tk]
    · have s1 := same_upd (o := .tup (cutV (T0.map V.int) none (some (n : Int)))) nq1
      refine ⟨_, _, rfl, .inr (SqT.of upd_same), fun q nq => ⟨q, rfl, s1.trans (same_upd nq), fun b o h => ne_of_none (s1 _ _ h) nq, ?_⟩⟩
      rw [upd_same, cut_all, tk]
  · rintro σ H1 ⟨q, rfl, s1, ne, hq⟩
    have ht1 := s1 _ _ ht
    refine ⟨_, rfl, _, _, rfl, .inr (SqT.of ht1), _, rfl, _, _, rfl, ⟨by rw [ll]; omega, by rw [ll]; omega, by omega, by omega⟩, ?_⟩
    refine for_range (lo := _) (n := _) (fun i σ H2 => ∃ v, σ = [some (.ref d), some (.int (n : Int)), some (.ref t), some (.int (p : Int)), some (.int r), some (.ref q), v] ∧ Same H H2 ∧ H2 q = some (.lst ((vals T0 p r (min n T0.length + i)).map V.int)))
      ⟨none, rfl, s1, hq⟩ ?_ ?_
    · rintro i σ H2 hi ⟨v, rfl, s2, hq2⟩
      rw [ll] at hi
      have hi : T0.length + i < n := by omega
      have em : min n T0.length = T0.length := by omega
      rw [em] at hq2 ⊢
      have e1 : (((T0.map V.int).length : Nat) : Int) + (i : Int) - (p : Int) = ((T0.length + i - p : Nat) : Int) := by rw [ll]; omega
      refine ⟨_, rfl, .inl ⟨rfl, _, SqL.of hq2⟩, _, rfl, _, rfl, _, rfl, _, _, rfl, rfl, _, _, _, _, rfl, rfl, SqL.of hq2, at_of e1 (vals_get (by omega)), _, rfl, _, _, rfl, rfl, q, _, _, rfl, rfl, hq2, ?_, _, rfl, fun b o h => ?_, ?_⟩
      · rw [List.length_map, vals_len]
        exact Nat.lt_of_le_of_lt (show T0.length + i ≤ 20000 by omega) (by decide)
      · rw [upd_ne (ne b o h)]
        exact s2 _ _ h
      · rw [upd_same, ← Nat.add_assoc, vals_succ, List.map_append, vl_step (x := T0.length + i) p0 p1 (by omega)]
        rfl
    · rintro σ H2 ⟨v, rfl, s2, hq2⟩
      refine ⟨_, rfl, k H2 q s2 ne ?_⟩
      rw [hq2, ll]
      congr 4
      omega
end
end Sm

set_option Elab.async false
set_option linter.all false
set_option maxRecDepth 100000
set_option maxHeartbeats 16000000
namespace Sm
open PySem PySem.Spec PyProof.Rows L2
open C8 (pss_cut tCut)
def sp_cycle_of (K : PySem.W.Frag) : Sp := fun vs H Q _ => ∃ (a : Addr) (I : List Int), vs = [.ref a] ∧ H a = some (.lst (I.map V.int)) ∧ 0 < I.length ∧ I.length ≤ 30000 ∧ ∀ H' s, Same H H' → Cyc I s → Q (.int (s : Int)) H'
theorem ints_eqvAll : ∀ I J : List Int, PyData.eqvAll (I.map PyData.int) (J.map PyData.int) = decide (I = J)
  | [], [] => by simp [PyData.eqvAll]
  | [], j :: J => by simp [PyData.eqvAll]
  | i :: I, [] => by simp [PyData.eqvAll]
  | i :: I, j :: J => by
    have := ints_eqvAll I J
    simp only [List.map_cons, PyData.eqvAll, this]
    simp [PyData.eqv]
    rfl
theorem ints_eqv (I J : List Int) : PyData.eqv (.list (I.map PyData.int)) (.list (J.map PyData.int)) = decide (I = J) := by
  rw [← ints_eqvAll]
  simp [PyData.eqv]
theorem ints_shaped (I : List Int) : SeqAt.shaped (.list (I.map PyData.int)) = true := by
  have a : PyData.canLayAll0 (I.map PyData.int) = true := by
    induction I with
    | nil => rfl
    | cons i I ih => simp [PyData.canLayAll0, PyData.canLay0, ih]
  have b := depth_ints I
  have c : PyData.depth (.list (I.map PyData.int)) ≤ 64 := by
    simp only [PyData.depth]
    omega
  simp [SeqAt.shaped, PyData.canLay0, a, c]
theorem cut_from {xs : List V} {n : Nat} (h : n ≤ xs.length) : cutV xs (some (n : Int)) none = xs.drop n := by
  unfold cutV
  rw [HT.sIx_none, HT.sIx_nat, Nat.min_eq_left h]
  exact List.take_of_length_le (by rw [List.length_drop]; omega)
section
variable {P : Program} {w : World} {K : PySem.W.Frag} {mg : Str → Option Value} {base : Heap}
abbrev s_cycle_of : Stmt := topS 8
abbrev N_cycle_of : List Str := ["items", "turn"]
theorem sc_cycle_of : FnScope N_cycle_of ["items"] (defScope s_cycle_of) := ⟨rfl, rfl, rfl, by decide +kernel, rfl, by decide +kernel, by decide +kernel⟩
theorem ok_cycle_of (T : Txt mg) (D : Df K mg "cycle_of" s_cycle_of ["items"]) : Cal P w K mg base "cycle_of" ["items"] 1 (sp_cycle_of K) := by
  refine D.cal sc_cycle_of (fun vs H Q E h => ?_) (fun f cdv A outer s H vs Q E hr h => ?_)
  · obtain ⟨a, I, rfl, _⟩ := h
    rfl
  obtain ⟨a, I, rfl, hS, i0, i1, k⟩ := h
  have ll := len_int I
  have lm : (I.map V.int).length = I.length := List.length_map ..
  refine ⟨_, (pss_cons (ps_for PassesOwn.never rfl (pi_range2 (by rfl) T.n_range (pa_cons pe_int (pa_cons (pe_callB call_len_seq (by rfl) T.n_len (by decide +kernel) (pa_cons (pv 0) pa_nil)) pa_nil))) (pg_name (i := 1) sc_cycle_of.nd rfl (Or.inl rfl))
      (pss_one (ps_if (PW.pt (pw_and (pt_cmpR op_eq (pe_op op_modN (pe_callB call_len_seq (by rfl) T.n_len (by decide +kernel) (pa_cons (pv 0) pa_nil)) (pv 1)) pe_int (nomark _)) (pw_and1 (pt_cmpR (op_eqD hr.units) (pv 0) (pe_op op_cat (pe_slice sl_list (pv 0) (po_some (pv 1)) po_none) (pe_slice sl_list (pv 0) po_none (po_some (pv 1)))) (nomark _))))) (pss_one (ps_ret (pv 1))) pss_nil)))
    (pss_one (ps_ret (pe_callB call_len_seq (by rfl) T.n_len (by decide +kernel) (pa_cons (pv 0) pa_nil))))), ?_⟩
  refine ⟨_, rfl, _, _, rfl, .inl (SqL.of hS), _, _, rfl, ⟨by omega, by omega, by rw [ll]; omega, by rw [ll]; omega⟩, ?_⟩
  refine for_range (lo := _) (n := _) (fun i σ H' => ∃ v, σ = [some (.ref a), v] ∧ Same H H' ∧ H' a = some (.lst (I.map V.int)) ∧ ∀ t, 0 < t → t ≤ i → t < I.length → t ∣ I.length → ¬ Rot I t)
    ⟨none, rfl, Same.refl _, hS, fun t h1 h2 => absurd h1 (by omega)⟩ ?_ ?_
  · rintro i σ H' hi ⟨v, rfl, s, hS, least⟩
    rw [ll] at hi
    have hi : 1 + i < I.length := by omega
    have more : (1 + i ∣ I.length → ¬ Rot I (1 + i)) → ∀ t, 0 < t → t ≤ i + 1 → t < I.length → t ∣ I.length → ¬ Rot I t := by
      intro h t h1 h2 h3 h4
      by_cases q : t = 1 + i
      · subst q
        exact h h4
      · exact least t h1 (by omega) h3 h4
    refine ⟨_, rfl, _, _, rfl, .inl (SqL.of hS), _, rfl, _, _, rfl, rfl, (by omega), rfl, _, rfl, ite3 (fun e => ?_) (fun e => ?_)⟩
    · rw [ll] at e
      have dv : 1 + i ∣ I.length := dvd_of (V.int.inj e)
      refine ⟨_, rfl, _, rfl, _, rfl, _, rfl, a, _, rfl, SqL.of hS, fun c nc => ?_⟩
      have e1 : cutV (I.map V.int) (some (1 + (i : Int))) none = (I.drop (1 + i)).map V.int := by
        rw [show (1 : Int) + (i : Int) = ((1 + i : Nat) : Int) by omega, cut_from (by rw [lm]; omega), List.map_drop]
      have e2 : cutV (I.map V.int) none (some (1 + (i : Int))) = (I.take (1 + i)).map V.int := by
        rw [show (1 : Int) + (i : Int) = ((1 + i : Nat) : Int) by omega, cut_all, List.map_take]
      have s1 := same_upd (o := .lst (cutV (I.map V.int) (some (1 + (i : Int))) none)) nc
      refine ⟨_, rfl, _, rfl, _, rfl, a, _, rfl, SqL.of (s1 _ _ hS), fun d nd => ?_⟩
      have s2 := same_upd (o := .lst (cutV (I.map V.int) none (some (1 + (i : Int))))) nd
      refine ⟨_, _, _, _, rfl, rfl, s2 _ _ upd_same, upd_same, ?_, fun g ng => ?_⟩
      · rw [e1, e2, List.length_map, List.length_map, List.length_drop, List.length_take]
        exact Nat.le_trans (show I.length - (1 + i) + min (1 + i) I.length ≤ 30000 by omega) (by decide)
      rw [e1, e2] at *
      have s3 := same_upd (o := .lst ((I.drop (1 + i)).map V.int ++ (I.take (1 + i)).map V.int)) ng
      have sz := s1.trans (s2.trans s3)
      have hg : ∀ H9 : Hp, H9 = upd (upd (upd H' c (.lst ((I.drop (1 + i)).map V.int))) d (.lst ((I.take (1 + i)).map V.int))) g (.lst ((I.drop (1 + i)).map V.int ++ (I.take (1 + i)).map V.int)) → H9 g = some (.lst ((I.drop (1 + i) ++ I.take (1 + i)).map V.int)) := by
        rintro H9 rfl
        rw [upd_same, List.map_append]
      have hg := hg _ rfl
      generalize upd (upd (upd H' c (.lst ((I.drop (1 + i)).map V.int))) d (.lst ((I.take (1 + i)).map V.int))) g (.lst ((I.drop (1 + i)).map V.int ++ (I.take (1 + i)).map V.int)) = H9 at sz hg ⊢
      refine ⟨dataI I, dataI (I.drop (1 + i) ++ I.take (1 + i)), .lst (SqL.of (sz _ _ hS)) (dp_ints _), .lst (SqL.of hg) (dp_ints _), ints_shaped _, ints_shaped _, ?_⟩
      unfold dataI
      rw [ints_eqv]
      refine ⟨_, rfl, ite3 (fun r => ?_) (fun r => ?_)⟩
      · refine ⟨_, rfl, ?_⟩
        have z : (1 : Int) + (i : Int) = ((1 + i : Nat) : Int) := by omega
        rw [z]
        exact k H9 (1 + i) (s.trans sz) ⟨by omega, by omega, dv, fun _ => r, fun t h1 h2 h3 => least t h1 (by omega) (by omega) h3⟩
      · exact ⟨_, rfl, s.trans sz, sz _ _ hS, more fun _ => r⟩
    · exact iteF ⟨_, rfl, s, hS, more fun dv => absurd (congrArg V.int (by rw [ll]; exact of_dvd dv)) e⟩
  · rintro σ H' ⟨v, rfl, s, hS, least⟩
    rw [ll] at least
    refine ⟨_, rfl, _, _, rfl, .inl (SqL.of hS), ?_⟩
    rw [ll]
    exact k H' I.length s ⟨i0, Nat.le_refl _, Nat.dvd_refl _, fun h => absurd h (Nat.lt_irrefl _), fun t h1 h2 h3 => least t h1 (by omega) (by omega) h3⟩
end
end Sm

set_option Elab.async false
set_option linter.all false
set_option maxRecDepth 100000
set_option maxHeartbeats 16000000
namespace Sm
open PySem PySem.Spec PyProof.Rows L2
open C8 (pss_cut tCut)
def sp_shortest (K : PySem.W.Frag) : Sp := fun vs H Q _ => ∃ (a : Addr) (T : List Int) (p : Nat) (r : Int), vs = [.ref a, .int (p : Int), .int r] ∧ H a = some (.lst (T.map V.int)) ∧ RuleOk T p r ∧ RB T p r ∧
  ∀ H' d' T' p' r', Same H H' → RuleAt H' d' T' p' r' → Cut T p r T' p' r' → Short T' p' r' → (∀ x, vl T' p' r' x = vl T p r x) → Q (.ref d') H'
abbrev sp_told := sp_shortest
theorem steps_split {T : List Int} {p : Nat} {r : Int} (o : RuleW T p r) : ((List.range (p - 1)).map fun i => T.getD (T.length - p + (i + 1)) 0 - T.getD (T.length - p + i) 0) ++ [T.getD (T.length - p + 0) 0 + r - T.getD (T.length - 1) 0] = stepsOf T p r := by
  have p0 := o.p0
  have p1 := o.p1
  obtain ⟨q, rfl⟩ : ∃ q, p = q + 1 := ⟨p - 1, by omega⟩
  unfold stepsOf
  rw [List.range_succ, List.map_append, Nat.add_sub_cancel]
  congr 1
  · refine List.map_congr_left fun i hi => ?_
    have hi := List.mem_range.mp hi
    rw [vl_lt (by omega), vl_lt (by omega), Nat.add_assoc]
  · show [_] = [vl T (q + 1) r (T.length - (q + 1) + q + 1) - vl T (q + 1) r (T.length - (q + 1) + q)]
    have e := vl_add p0 p1 (r := r) (x := T.length - (q + 1)) (Nat.le_refl _)
    rw [show T.length - (q + 1) + q + 1 = T.length - (q + 1) + (q + 1) by omega, e, vl_lt (by omega), vl_lt (by omega), show T.length - (q + 1) + q = T.length - 1 by omega]
    rfl
section
variable {P : Program} {w : World} {K : PySem.W.Frag} {mg : Str → Option Value} {base : Heap}
abbrev s_shortest : Stmt := topS 7
abbrev N_shortest : List Str := ["table", "period", "rise", "tail", "steps", "turn", "gain", "count", "at"]
theorem sc_shortest : FnScope N_shortest ["table", "period", "rise"] (defScope s_shortest) := ⟨rfl, rfl, rfl, by decide +kernel, rfl, by decide +kernel, by decide +kernel⟩
theorem ok_shortest (T : Txt mg) (D : Df K mg "shortest" s_shortest ["table", "period", "rise"]) (C_cycle_of : Cal P w K mg base "cycle_of" ["items"] 1 (sp_cycle_of K)) : Cal P w K mg base "shortest" ["table", "period", "rise"] 2 (sp_shortest K) := by
  obtain ⟨f_cycle_of, fd_cycle_of, G_cycle_of, m_cycle_of, k_cycle_of, b_cycle_of⟩ := C_cycle_of
  refine D.cal sc_shortest (fun vs H Q E h => ?_) (fun f cdv A outer s H vs Q E hr h => ?_)
  · obtain ⟨a, T0, p, r, rfl, _⟩ := h
    rfl
  obtain ⟨a, T0, p, r, rfl, hS, o, b, k⟩ := h
  have p0 := o.p0
  have p1 := o.p1
  have bl := b.len
  have r0 := o.r0
  have ll := len_int T0
  have lm : (T0.map V.int).length = T0.length := List.length_map ..
  have lo : (((T0.map V.int).length : Nat) : Int) - (p : Int) = ((T0.length - p : Nat) : Int) := by rw [ll]; omega
  refine ⟨_, (pss_cons (ps_set (i := 3) sc_shortest.nd rfl (Or.inr rfl) (pe_slice sl_list (pv 0) (po_some (pe_op op_sub (pe_callB call_len_seq (by rfl) T.n_len (by decide +kernel) (pa_cons (pv 0) pa_nil)) (pv 1))) po_none))
    (pss_cons (ps_setLc (i := 4) (own := [("at", 8)]) (g := gName 8) (tt := tYes) rfl sc_shortest.nd rfl rfl (sw_true rfl rfl rfl (by decide +kernel)) (pi_range1 (by rfl) T.n_range (pa_cons (pe_op op_sub (pv 1) pe_int) pa_nil)) (blkOk_by (own := [("at", 8)]) (N := N_shortest) (sc := defScope s_shortest) (by decide +kernel)) (fun _ _ _ _ _ => pg_name (i := 8) sc_shortest.nd rfl (Or.inl rfl)) (fun _ _ _ _ _ => pts_nil) (fun _ _ _ _ _ => (pe_op op_sub (pe_ix (show IxR _ (rIxL K) from ix_list) (pv 3) (pe_op op_add (pv 8) pe_int) (fun _ _ => rfl)) (pe_ix (show IxR _ (rIxL K) from ix_list) (pv 3) (pv 8) (fun _ _ => rfl)))))
    (pss_cons (ps_set (i := 5) sc_shortest.nd rfl (Or.inl rfl) (pe_call G_cycle_of (hr.mono (by decide)) (by rfl) m_cycle_of k_cycle_of b_cycle_of .nil pass0 (pa_cons (pe_op op_cat (pv 4) (pe_lst (pa_cons (pe_op op_sub (pe_op op_add (pe_ix ix_list (pv 3) pe_int (fun _ _ => rfl)) (pv 2)) (pe_ix ix_list (pv 3) (pe_un un_neg pe_int) (fun _ _ => rfl))) pa_nil))) pa_nil)))
    (pss_cons (ps_set (i := 6) sc_shortest.nd rfl (Or.inl rfl) (pe_op op_fdivW (pe_op op_mul (pv 2) (pv 5)) (pv 1)))
    (pss_cons (ps_set (i := 7) sc_shortest.nd rfl (Or.inl rfl) (pe_callB call_len_seq (by rfl) T.n_len (by decide +kernel) (pa_cons (pv 0) pa_nil)))
    (pss_cons (ps_while PassesOwn.never (PW.pt (pw_and (pt_cmpR op_gt (pv 7) (pv 5) (nomark _)) (pw_and1 (pt_cmpR op_eq (pe_ix ix_list (pv 0) (pe_op op_sub (pv 7) pe_int) (fun _ _ => rfl)) (pe_op op_add (pe_ix ix_list (pv 0) (pe_op op_sub (pe_op op_sub (pv 7) pe_int) (pv 5)) (fun _ _ => rfl)) (pv 6)) (nomark _)))))
      (pss_one (ps_aug (i := 7) sc_shortest.nd rfl (Or.inl rfl) pe_int ip_sub)))
    (pss_one (ps_ret (pe_tup (pa_cons (pe_callTy call_tuple_of (by rfl) T.n_tuple (by decide +kernel) (pa_cons (pe_slice sl_list (pv 0) po_none (po_some (pv 7))) pa_nil)) (pa_cons (pv 5) (pa_cons (pv 6) pa_nil)))))))))))), ?_⟩
  refine ⟨_, rfl, _, rfl, _, _, rfl, .inl (SqL.of hS), _, rfl, _, _, rfl, rfl, _, rfl, a, _, rfl, SqL.of hS, fun c nc => ?_⟩
  rw [lo, cut_from (by rw [lm]; omega), ← List.map_drop]
  have s1 := same_upd (o := .lst ((T0.drop (T0.length - p)).map V.int)) nc
  have hc : upd H c (.lst ((T0.drop (T0.length - p)).map V.int)) c = some (.lst ((T0.drop (T0.length - p)).map V.int)) := upd_same
  generalize upd H c (.lst ((T0.drop (T0.length - p)).map V.int)) = H1 at s1 hc ⊢
  have tl : (T0.drop (T0.length - p)).length = p := by rw [List.length_drop]; omega
  have tg : ∀ i, i < p → ((T0.drop (T0.length - p)).map V.int)[i]? = some (.int (T0.getD (T0.length - p + i) 0)) := by
    intro i hi
    rw [List.getElem?_map, List.getElem?_drop, List.getElem?_eq_getElem (by omega), List.getD_eq_getElem?_getD, List.getElem?_eq_getElem (by omega)]
    rfl
  have cnt : ((p : Int) - 1).toNat = p - 1 := by omega
  refine ⟨_, rfl, _, _, rfl, rfl, _, rfl, (by omega), (by omega), fun D nD => ?_⟩
  rw [cnt]
  have sD := same_upd (o := .lst []) nD
  refine lc_range (lo := 0) (n := p - 1) (fun j H' => Same H1 H' ∧ H' D = some (.lst (((List.range j).map fun i => T0.getD (T0.length - p + (i + 1)) 0 - T0.getD (T0.length - p + i) 0).map V.int))) ⟨sD, upd_same⟩ ?_ ?_
  · rintro j H' hj ⟨s', hD⟩
    refine ⟨rfl, ?_⟩
    unfold tYes
    refine iteT ?_
    have e1 : (0 : Int) + (j : Int) + 1 = ((j + 1 : Nat) : Int) := by omega
    have e0 : (0 : Int) + (j : Int) = (j : Int) := Int.zero_add _
    refine ⟨_, rfl, _, rfl, _, _, rfl, rfl, _, _, _, _, rfl, rfl, SqL.of (s' _ _ hc), at_of e1 (tg (j + 1) (by omega)), _, rfl, _, rfl, _, _, _, _, rfl, rfl, SqL.of (s' _ _ hc), at_of e0 (tg j (by omega)), _, _, rfl, rfl, _, hD, ?_, fun b o e => ?_, ?_⟩
    · rw [List.length_map, List.length_map, List.length_range]
      exact Nat.lt_of_le_of_lt (show j ≤ 30000 by omega) (by decide)
    · rw [upd_ne (ne_of_none e nD)]
      exact s' _ _ e
    · rw [upd_same, List.range_succ, List.map_append, List.map_append]
      rfl
  rintro H2 ⟨s2, hD⟩
  have hc2 := s2 _ _ hc
  have g0 := tg 0 p0
  have gl := tg (p - 1) (by omega)
  rw [show T0.length - p + (p - 1) = T0.length - 1 by omega] at gl
  refine ⟨_, rfl, _, rfl, _, _, _, _, rfl, rfl, SqL.of hc2, atI_nat (j := 0) g0, _, rfl, _, _, rfl, rfl, _, rfl, _, rfl, _, _, _, _, rfl, rfl, SqL.of hc2, atI_neg1 (by rw [List.length_map, tl]; exact p0) (by rw [List.length_map, tl]; exact gl), _, _, rfl, rfl, (by show 1 ≤ sizeLine; decide), fun e ne => ?_⟩
  have se := same_upd (o := .lst [.int (T0.getD (T0.length - p + 0) 0 + r - T0.getD (T0.length - 1) 0)]) ne
  refine ⟨_, _, _, _, rfl, rfl, se _ _ hD, upd_same, ?_, fun g ng => ?_⟩
  · rw [List.length_map, List.length_map, List.length_range]
    exact Nat.le_trans (show p - 1 + 1 ≤ 30000 by omega) (by decide)
  have sg := same_upd (o := .lst ((((List.range (p - 1)).map fun i => T0.getD (T0.length - p + (i + 1)) 0 - T0.getD (T0.length - p + i) 0).map V.int) ++ [.int (T0.getD (T0.length - p + 0) 0 + r - T0.getD (T0.length - 1) 0)])) ng
  have hg : ∀ H9 : Hp, H9 g = some (.lst ((((List.range (p - 1)).map fun i => T0.getD (T0.length - p + (i + 1)) 0 - T0.getD (T0.length - p + i) 0).map V.int) ++ [.int (T0.getD (T0.length - p + 0) 0 + r - T0.getD (T0.length - 1) 0)])) → H9 g = some (.lst ((stepsOf T0 p r).map V.int)) := by
    intro H9 h
    rw [h, ← steps_split o.w, List.map_append]
    rfl
  have s3 := s1.trans (s2.trans (se.trans sg))
  refine ⟨g, stepsOf T0 p r, rfl, hg _ upd_same, by rw [stepsOf_len]; exact p0, by rw [stepsOf_len]; omega, fun H3 s s4 cyc => ?_⟩
  obtain ⟨s0, sp, sd, hs, hm⟩ := cyc_rule o cyc
  have sz := s3.trans s4
  have hS3 := sz _ _ hS
  refine ⟨_, rfl, _, rfl, _, _, rfl, rfl, b.mulR' o, _, rfl, _, _, rfl, rfl, b.div o, _, rfl, _, _, rfl, .inl (SqL.of hS3), ?_⟩
  have c0 : 0 ≤ r * (s : Int) / (p : Int) := Int.ediv_nonneg (Int.mul_nonneg r0 (by omega)) (by omega)
  have c1 : r * (s : Int) / (p : Int) ≤ r := by
    have h1 : r * (s : Int) ≤ r * (p : Int) := Int.mul_le_mul_of_nonneg_left (by omega) r0
    have h2 := Int.ediv_le_ediv (show (0 : Int) < (p : Int) by omega) h1
    rw [Int.mul_ediv_cancel _ (by omega)] at h2
    exact h2
  have all := rep_all o hs
  obtain ⟨cc, ec⟩ : ∃ cc, cc = r * (s : Int) / (p : Int) := ⟨_, rfl⟩
  rw [← ec] at c0 c1 all
  refine ⟨fun m σ H' => σ = [some (.ref a), some (.int (p : Int)), some (.int r), some (.ref c), some (.ref D), some (.int (s : Int)), some (.int cc), some (.int ((m + s : Nat) : Int)), none] ∧ H' = H3 ∧ m + s ≤ T0.length ∧ ∀ y, m ≤ y → vl T0 p r (y + s) = vl T0 p r y + cc, ⟨T0.length - s, ?_, rfl, by omega, fun y hy => all y (by omega)⟩, ?_⟩
  · rw [ec, show T0.length - s + s = T0.length by omega, ← ll]
    rfl
  rintro m σ H' ⟨rfl, rfl, al, ha⟩
  have fin : (m = 0 ∨ vl T0 p r (m - 1 + s) ≠ T0.getD (m - 1) 0 + cc) → ∀ (H5 : Hp) (t' : Addr), Same H' H5 → H5 t' = some (.tup ((T0.take (m + s)).map V.int)) → ∀ q, H5 q = none → Q (.ref q) (upd H5 q (.tup [.ref t', .int (s : Int), .int cc])) := by
    intro st H5 t' sm h5 q nq
    have sq := same_upd (o := .tup [.ref t', .int (s : Int), .int cc]) nq
    have am : m ≤ T0.length - p := by
      rcases Nat.lt_or_ge (T0.length - p) m with w | w
      · exfalso
        rcases st with z | z
        · omega
        · apply z
          rw [all (m - 1) (by omega), vl_lt (by omega)]
      · exact w
    refine k _ q (T0.take (m + s)) s cc (sz.trans (sm.trans sq)) ⟨t', upd_same, sq _ _ h5⟩ ⟨?_, sp, c1, fun i hi => ?_⟩ (cut_short o s0 sd am c0 ha hm st) (cut_vl s0 (by omega) ha)
    · rw [List.length_take]
      omega
    · rw [List.length_take] at hi
      exact getD_take (by omega)
  have out : (m = 0 ∨ vl T0 p r (m - 1 + s) ≠ T0.getD (m - 1) 0 + cc) → ∀ (g : Addr), H' g = none → ∀ (xs : List V), xs = (T0.take (m + s)).map V.int → ∀ t', upd H' g (.lst xs) t' = none → ∀ q, upd (upd H' g (.lst xs)) t' (.tup xs) q = none → Q (.ref q) (upd (upd (upd H' g (.lst xs)) t' (.tup xs)) q (.tup [.ref t', .int (s : Int), .int cc])) := by
    rintro st g ng xs rfl t' nt q nq
    exact fin st _ t' ((same_upd ng).trans (same_upd nt)) upd_same q nq
  have cx : cutV (T0.map V.int) none (some ((m + s : Nat) : Int)) = (T0.take (m + s)).map V.int := by rw [cut_all, List.map_take]
  refine ⟨_, rfl, _, rfl, _, _, rfl, rfl, _, rfl, ?_⟩
  by_cases e : ((m + s : Nat) : Int) > (s : Int)
  · have e1 : ((m + s : Nat) : Int) - 1 = ((m + s - 1 : Nat) : Int) := by omega
    have e2 : ((m + s : Nat) : Int) - 1 - (s : Int) = ((m - 1 : Nat) : Int) := by omega
    refine iteP e ⟨_, rfl, _, rfl, _, _, rfl, rfl, _, _, _, _, rfl, rfl, SqL.of hS3, at_of e1 (get_int (by omega)), _, rfl, _, rfl, _, _, rfl, rfl, _, rfl, _, _, rfl, rfl, _, _, _, _, rfl, rfl, SqL.of hS3, at_of e2 (get_int (by omega)), _, rfl, _, _, rfl, rfl, rfl, _, rfl, ?_⟩
    have e4 : vl T0 p r (m - 1 + s) = T0.getD (m + s - 1) 0 := by rw [show m - 1 + s = m + s - 1 by omega, vl_lt (by omega)]
    by_cases e3 : T0.getD (m + s - 1) 0 = T0.getD (m - 1) 0 + cc
    · refine iteP (congrArg V.int e3) ⟨fun σ H'' => σ = [some (.ref a), some (.int (p : Int)), some (.int r), some (.ref c), some (.ref D), some (.int (s : Int)), some (.int cc), some (.int ((m - 1 + s : Nat) : Int)), none] ∧ H'' = H' ∧ m - 1 + s ≤ T0.length ∧ ∀ y, m - 1 ≤ y → vl T0 p r (y + s) = vl T0 p r y + cc, fun σ' H3 hw => ⟨m - 1, by omega, hw⟩, ?_⟩
      have e5 : ((m + s : Nat) : Int) - 1 = ((m - 1 + s : Nat) : Int) := by omega
      refine ⟨_, rfl, _, _, rfl, rfl, ⟨by rw [← e5]; rfl, rfl, by omega, fun y hy => ?_⟩⟩
      by_cases q : y = m - 1
      · rw [q, e4, e3, vl_lt (by omega)]
      · exact ha y (by omega)
    · refine iteN (fun q => e3 (V.int.inj q)) ?_
      refine ⟨_, rfl, _, rfl, _, rfl, a, _, rfl, SqL.of hS3, fun g ng => ⟨_, _, rfl, .inl ⟨SqL.of upd_same, fun t' nt => ⟨_, rfl, _, rfl, (by show 3 ≤ sizeLine; decide), fun q nq => ?_⟩⟩⟩⟩
      exact out (.inr (by rw [e4]; exact e3)) g ng _ cx t' nt q nq
  · refine iteN e (iteF ?_)
    refine ⟨_, rfl, _, rfl, _, rfl, a, _, rfl, SqL.of hS3, fun g ng => ⟨_, _, rfl, .inl ⟨SqL.of upd_same, fun t' nt => ⟨_, rfl, _, rfl, (by show 3 ≤ sizeLine; decide), fun q nq => ?_⟩⟩⟩⟩
    exact out (.inl (by omega)) g ng _ cx t' nt q nq
end
end Sm

set_option Elab.async false
set_option linter.all false
set_option maxRecDepth 100000
set_option maxHeartbeats 4000000
namespace Sm
open PySem PySem.Spec PyProof.Rows L2
/-- isinstance of the exception that the suite holds, with its dict: one class, or a tuple of classes just laid -/
def rIsX (K : PySem.W.Frag) (cls : Value) (d : Option Addr) (a : Addr) : List V → Hp → VK → Prop := fun xs H Q => ∃ (D dd : Addr) (fs : List (Str × V)), cls = .ref D ∧ d = some dd ∧ H dd = some (.xd fs) ∧ ExcC K D ∧
  ((∃ (c : V) (cv : Value) (b : Bool), xs = [.ref a, c] ∧ ClsV c cv ∧ PySem.W.kitOne K (.ref D) cv = some b ∧ Q (.bl b) H) ∨
   ∃ (tp : Addr) (cs : List V) (us : List Value) (b : Bool), xs = [.ref a, .ref tp] ∧ H tp = some (.tup cs) ∧ Paired ClsV cs us ∧ PySem.W.kitAny K (.ref D) us = some b ∧ Q (.bl b) H)
theorem call_isX {X : Cx} {a : Addr} {cls : Value} {d : Option Addr} {oe : Obj} {pn : List (Addr × Obj)} (hz : Zc cls d oe) (hf : ∃ vs, oe.data = .fields vs) : CallR (X.suite a ((a, oe) :: pn)) (.builtin "isinstance") (rIsX X.K cls d a) := by
  intro pins s σ H xs us Q I r h
  obtain ⟨D, dd, fs, rfl, rfl, ea, C, h⟩ := h
  obtain ⟨ha, _⟩ := I.pin (a, oe) (List.mem_append_left _ List.mem_cons_self)
  obtain ⟨vs, hd⟩ := hf
  have hx : ObjOk X.prog X.w H s.heap dd (.xd fs) := I.hok dd _ ea
  obtain ⟨mA, hns, hr⟩ := hx
  obtain ⟨od, ho, hl⟩ := lookIn_ns hns
  have J : PySem.W.InstAt s.heap a oe D (some od) := ⟨ha, hz.1, by unfold PySem.W.notCls; rw [hd] <;> rfl, by rw [hz.2]; exact ho⟩
  obtain ⟨cd, hc, _⟩ := PySem.W.any_some C.hd
  have Z := PySem.W.kitx_exc (x := a) (ox := oe) (od := some od) (by rw [hc]; rfl) C.hg C.hk C.hs C.ha C.hn C.ht C.hm
  rcases h with ⟨c, cv, b, rfl, k, e, q⟩ | ⟨tp, cs, ws, b, rfl, hT, k, e, q⟩
  · obtain ⟨u1, u2, rfl, r1, r2⟩ := vals2 r
    cases (show u1 = Value.ref a from r1)
    cases k.eq r2
    exact PySem.W.kia_one Z I.kIn J e (fun z => nomatch z) fun tk => ⟨.bl b, H, I.kept (t' := tk) fun _ _ z => z, rfl, q⟩
  · obtain ⟨u1, u2, rfl, r1, r2⟩ := vals2 r
    cases (show u1 = Value.ref a from r1)
    cases (show u2 = Value.ref tp from r2)
    obtain ⟨_, its, rv, o, h1, h2, n, h3⟩ := (show ObjOk X.prog X.w H s.heap tp (.tup cs) from I.hok tp _ hT)
    have e3 := ClsV.all k rv
    subst e3
    obtain ⟨oc, od', dt, sl⟩ := o
    simp only at h2 h3
    subst h2 h3
    exact PySem.W.kia_tup Z I.kIn J h1 e (fun z => nomatch z) fun tk => ⟨.bl b, H, I.kept (t' := tk) fun _ _ z => z, rfl, q⟩
theorem kit_own {K : PySem.W.Frag} {D C : Addr} {b : Bool} (h1 : PySem.W.isClsIn K C = true) (h2 : PySem.W.typeIn K (.ref C) = some (.type "type")) (h3 : PySem.W.subIn K (.ref D) (.ref C) = some b) (h4 : PySem.W.subIn K (.ref D) (.ref D) = some true) : PySem.W.kitOne K (.ref D) (.ref C) = some b := by
  unfold PySem.W.kitOne
  by_cases e : D = C
  · subst e
    rw [h4] at h3
    rw [if_pos (beq_self_eq_true _)]
    exact h3
  · rw [if_neg (fun q => e (Value.ref.inj (beq_iff_eq.mp q)))]
    have h1' : (PySem.W.clsIn K C).isSome = true := h1
    have z : ((PySem.W.clsIn K C).isSome && PySem.W.typeIn K (.ref C) == some (.type "type")) = true := by rw [h1', h2] <;> rfl
    show (if ((PySem.W.clsIn K C).isSome && PySem.W.typeIn K (.ref C) == some (.type "type")) = true then PySem.W.subIn K (.ref D) (.ref C) else none) = some b
    rw [if_pos z]
    exact h3
theorem kit_valerr {K : PySem.W.Frag} {D : Addr} {b : Bool} (h : PySem.W.subIn K (.ref D) (.type "ValueError") = some b) : PySem.W.kitOne K (.ref D) (.type "ValueError") = some b := by
  have q : ((Value.ref D) == (Value.type "ValueError")) = false := beq_eq_false_iff_ne.mpr fun z => nomatch z
  unfold PySem.W.kitOne
  rw [if_neg (by rw [q]; exact Bool.false_ne_true)]
  show (if PySem.W.kitMeta "ValueError" = true then PySem.W.subIn K (.ref D) (.type "ValueError") else none) = some b
  rw [if_pos (by decide +kernel)]
  exact h
theorem kit_cons_false {K : PySem.W.Frag} {t c : Value} {cs : List Value} {b : Bool} (h : PySem.W.kitOne K t c = some false) (hr : PySem.W.kitAny K t cs = some b) : PySem.W.kitAny K t (c :: cs) = some b := by
  unfold PySem.W.kitAny
  rw [h]
  exact hr
/-- an own exception class with one field, made by its own __init__ -/
structure XcTxt (K : PySem.W.Frag) (mg : Str → Option Value) (nm fl : Str) (C fI : Addr) : Prop where
  g : mg nm = some (.ref C)
  oex : OexC K C
  no : PySem.W.findIn K (.ref C) fl = some none
  iC : PySem.W.findIn K (.ref C) "__init__" = some (some (.ref fI))
  tI : PySem.W.typeIn K (.ref fI) = some (.type "function")
  xf : XfC K C
  ec : ExcC K C
/-- C(e), told plainly: the new exception's dict holds the field -/
def tMkF (C : Addr) (fl : Str) (ta : TA) : L2.St → Hp → XK → Prop := fun σ H Q => ta σ H fun vs H1 => ∃ v, vs = [v] ∧ ∀ d, H1 d = none → Q (.ref C) (some d) (upd H1 d (.xd [(fl, v)]))
def sp_init (K : PySem.W.Frag) (fl : Str) : Sp := fun vs H Q _ => ∃ (a C : Addr) (v : V), vs = [.ref a, v] ∧ OexC K C ∧ PySem.W.findIn K (.ref C) fl = some none ∧ H a = some (exo a C none) ∧ ∀ dx, H dx = none → dx ≠ a → Q .non (upd (upd H dx (exd dx [(fl, v)])) a (exo a C (some dx)))
theorem xc_mk {C : Addr} {fl : Str} {K : PySem.W.Frag} {ta : TA} {σ : L2.St} {H : Hp} {Q : XK} (T : OexC K C) (no : PySem.W.findIn K (.ref C) fl = some none)
    (h : ta σ H fun vs H1 => ∃ v, vs = [v] ∧ ∀ d H2, Same H1 H2 → H2 d = some (.xd [(fl, v)]) → Q (.ref C) (some d) H2) (mono : ∀ {A B : List V → Hp → Prop}, (∀ vs H1, A vs H1 → B vs H1) → ta σ H A → ta σ H B) : tMkO C (sp_init K fl) [] ta σ H Q := by
  refine mono ?_ h
  rintro vs H1 ⟨v, rfl, k⟩
  refine ⟨by show 1 ≤ 1000; decide, fun a na => ⟨a, C, v, rfl, T, no, upd_same, fun dx nd da => ⟨rfl, dx, [(fl, v)], upd_same, ?_, ?_, ?_⟩⟩⟩
  · rw [upd_ne da, upd_same]
  · rw [upd_ne da] at nd
    exact nd
  · have nd1 : H1 dx = none := by
      rw [upd_ne da] at nd
      exact nd
    refine k dx _ (fun b o hb => ?_) upd_same
    rw [upd_ne (ne_of_none hb nd1), del_ne (ne_of_none hb na), upd_ne (ne_of_none hb na), upd_ne (ne_of_none hb nd1), upd_ne (ne_of_none hb na)]
    exact hb
end Sm

set_option linter.all false
set_option maxRecDepth 100000
namespace Sm
section
variable {T1 T2 : List Int} {p1 p2 : Nat} {r1 r2 : Int}
/-- two rules that are equal far off: the shorter one's period divides the other one's -/
theorem far_le {A : Nat} (s1 : Short T1 p1 r1) (o2 : RuleOk T2 p2 r2) (h : ∀ x, A ≤ x → vl T1 p1 r1 x = vl T2 p2 r2 x) : Nat.gcd p1 p2 = p1 := by
  have o1 := s1.ok
  obtain ⟨c, hc⟩ := gcd_turn (f := vl T1 p1 r1) (A := max A (max (T1.length - p1) (T2.length - p2))) _ p1 p2 (Nat.le_refl _) o1.p0 o2.p0 ⟨r1, fun x hx => vl_add o1.p0 o1.p1 (by omega)⟩
    ⟨r2, fun x hx => by rw [h x (by omega), h (x + p2) (by omega)]; exact vl_add o2.p0 o2.p1 (by omega)⟩
  have g0 : 0 < Nat.gcd p1 p2 := Nat.gcd_pos_of_pos_left _ o1.p0
  have gl : Nat.gcd p1 p2 ≤ p1 := Nat.le_of_dvd o1.p0 (Nat.gcd_dvd_left ..)
  by_cases q : Nat.gcd p1 p2 = p1
  · exact q
  · refine absurd (fun i h1 h2 => ?_) (s1.turn (Nat.gcd p1 p2) c g0 (by omega) (Nat.gcd_dvd_left ..))
    have := rep_down o1 hc (x := i) h1
    rw [vl_lt h2] at this
    exact this
theorem far_turn {A : Nat} (s1 : Short T1 p1 r1) (s2 : Short T2 p2 r2) (h : ∀ x, A ≤ x → vl T1 p1 r1 x = vl T2 p2 r2 x) : p1 = p2 ∧ r1 = r2 := by
  have a := far_le s1 s2.ok h
  have b := far_le s2 s1.ok fun x hx => (h x hx).symm
  rw [Nat.gcd_comm] at b
  have e : p1 = p2 := a.symm.trans b
  refine ⟨e, ?_⟩
  subst e
  have e1 := vl_add (r := r1) s1.ok.p0 s1.ok.p1 (x := A + T1.length + T2.length) (by omega)
  have e2 := vl_add (r := r2) s2.ok.p0 s2.ok.p1 (x := A + T1.length + T2.length) (by omega)
  rw [h _ (by omega), h _ (by omega)] at e1
  omega
/-- from B on the one is nowhere below: the greater values repeat as it does -/
theorem over_turn {B : Nat} (o1 : RuleOk T1 p1 r1) (hB : T1.length - p1 ≤ B) (hL : ∀ x, B ≤ x → vl T2 p2 r2 x ≤ vl T1 p1 r1 x) : ∀ x, B ≤ x → max (vl T1 p1 r1 (x + p1)) (vl T2 p2 r2 (x + p1)) = max (vl T1 p1 r1 x) (vl T2 p2 r2 x) + r1 := by
  intro x hx
  have a := hL x hx
  have b := hL (x + p1) (by omega)
  have c := vl_add o1.p0 o1.p1 (r := r1) (x := x) (by omega)
  omega
/-- the shortest table of the greater values: it ends a period behind the last amount at which the flat one is above -/
theorem over_len {T : List Int} {p L : Nat} {r : Int} (s : Short T p r) (s1 : Short T1 p1 r1) (hv : ∀ x, vl T p r x = max (vl T1 p1 r1 x) (vl T2 p2 r2 x)) (hL : T1.length - p1 ≤ L) (above : vl T1 p1 r1 L < vl T2 p2 r2 L) (behind : ∀ x, L < x → vl T2 p2 r2 x ≤ vl T1 p1 r1 x) :
    p = p1 ∧ r = r1 ∧ T.length = L + 1 + p1 := by
  have far : ∀ x, L + 1 ≤ x → vl T p r x = vl T1 p1 r1 x := fun x hx => by
    rw [hv]
    have := behind x (by omega)
    omega
  obtain ⟨rfl, rfl⟩ := far_turn s s1 far
  refine ⟨rfl, rfl, ?_⟩
  have o := s.ok
  have o1 := s1.ok
  have p0 := o.p0
  have q1 := o.p1
  rcases Nat.lt_trichotomy T.length (L + 1 + p) with l | l | l
  · exfalso
    have a := vl_add (r := r) p0 q1 (x := L) (by omega)
    have b := vl_add (r := r) p0 o1.p1 (x := L) hL
    rw [far (L + p) (by omega), b, hv L] at a
    omega
  · exact l
  · exfalso
    rcases s.start with e | e
    · omega
    · apply e
      have c := far (T.length - 1) (by omega)
      have d := far (T.length - p - 1) (by omega)
      have f := vl_add (r := r) p0 o1.p1 (x := T.length - p - 1) (by omega)
      rw [show T.length - p - 1 + p = T.length - 1 by omega] at f
      rw [c, f, ← d, vl_lt (by omega)]
end
end Sm

set_option Elab.async false
set_option linter.all false
set_option maxRecDepth 100000
set_option maxHeartbeats 16000000
namespace Sm
open PySem PySem.Spec PyProof.Rows L2
open C8 (pss_cut tCut)
abbrev s_init : Stmt := inClass (topS 3) 0
abbrev N_init : List Str := ["self", "number"]
theorem sc_init : FnScope N_init ["self", "number"] (defScope s_init) := ⟨rfl, rfl, rfl, by decide +kernel, rfl, by decide +kernel, by decide +kernel⟩
/-- what the written part says of the class TooLong -/
structure Txl (K : PySem.W.Frag) (mg : Str → Option Value) (cTooLong fB : Addr) : Prop where
  gBadRule : mg "TooLong" = some (.ref cTooLong)
  oex : OexC K cTooLong
  noE : PySem.W.findIn K (.ref cTooLong) "number" = some none
  iC : PySem.W.findIn K (.ref cTooLong) "__init__" = some (some (.ref fB))
  tI : PySem.W.typeIn K (.ref fB) = some (.type "function")
  fI : ∃ fd, Fun K "__init__" "TooLong.__init__" s_init fB fd ∧ Binds K fd ["self", "number"] []
def CalX (P : Program) (w : World) (K : PySem.W.Frag) (mg : Str → Option Value) (base : Heap) (x : Str) (ps : List Str) (k : Nat) (sp : Sp) : Prop :=
  ∃ (f : Addr) (fd : FuncData), FnOk P w K mg base (L2.CX P w) k f fd ps sp ∧ mg x = some (.ref f) ∧ PySem.W.keepIn K (.ref f) = true ∧ Binds K fd ps []
/-- TooLong(n) in the air -/
def Lng (c : Addr) (n : Int) (H : Hp) (E : XK) : Prop := ∀ H' d, Same H H' → H' d = some (.xd [(("number" : Str), .int n)]) → E (.ref c) (some d) H'
def sp_check_told (c : Addr) : Sp := fun vs H Q E => ∃ n : Int, vs = [.int n] ∧ (n ≤ 5000 → Q .non H) ∧ (5000 < n → Lng c n H E)
def sp_toldX (c : Addr) : Sp := fun vs H Q E => ∃ (a : Addr) (T : List Int) (p : Nat) (r : Int), vs = [.ref a, .int (p : Int), .int r] ∧ H a = some (.lst (T.map V.int)) ∧ RuleOk T p r ∧ RB T p r ∧
  ∀ H' d' T' p' r', Same H H' → RuleAt H' d' T' p' r' → Cut T p r T' p' r' → Short T' p' r' → (∀ x, vl T' p' r' x = vl T p r x) → (T'.length ≤ 5000 → Q (.ref d') H') ∧ (5000 < T'.length → Lng c (T'.length : Int) H' E)
section
variable {P : Program} {w : World} {K : PySem.W.Frag} {mg : Str → Option Value} {base : Heap} {cTooLong fB : Addr}
theorem ok_init {fd : FuncData} (F : Fun K "__init__" "TooLong.__init__" s_init fB fd) : FnOk P w K mg base CX0 1 fB fd ["self", "number"] (sp_init K "number") := by
  refine F.ok sc_init (fun vs H Q E h => ?_) (fun cdv A outer s H vs Q E hr h => ?_)
  · obtain ⟨a, C, v, rfl, _⟩ := h
    rfl
  obtain ⟨a, C, v, rfl, T, no, ha, k⟩ := h
  refine ⟨_, pss_one (ps_ost (pv 0) (pv 1)), ?_⟩
  exact ⟨_, rfl, _, rfl, a, C, rfl, T, no, .inl ⟨ha, k⟩⟩
abbrev s_check_told : Stmt := topS 10
abbrev N_check_told : List Str := ["number"]
theorem sc_check_told : FnScope N_check_told ["number"] (defScope s_check_told) := ⟨rfl, rfl, rfl, by decide +kernel, rfl, by decide +kernel, by decide +kernel⟩
theorem ok_check_told (T : Txt mg) (XC : Txl K mg cTooLong fB) (D : Df K mg "check_told" s_check_told ["number"]) : CalX P w K mg base "check_told" ["number"] 3 (sp_check_told cTooLong) := by
  obtain ⟨fdI, FI, b_init⟩ := XC.fI
  have G_init : FnOk P w K mg base CX0 1 fB fdI ["self", "number"] (sp_init K "number") := ok_init FI
  obtain ⟨f, fd, F, m, b⟩ := D
  refine ⟨f, fd, F.okX sc_check_told (fun vs H Q E h => ?_) (fun cdv A outer s H vs Q E hr h => ?_), m, F.kp, b⟩
  · obtain ⟨n, rfl, _⟩ := h
    rfl
  obtain ⟨n, rfl, k1, k2⟩ := h
  obtain ⟨_, hMAX_TOLD⟩ := T.c_MAX_TOLD
  refine ⟨_, (pss_one (ps_if (pt_cmpR op_gt (pv 0) (pe_glob (v := .int 5000) rfl hMAX_TOLD ⟨_, rfl⟩) (nomark _)) (pss_one (ps_raise rfl (takes_of rfl rfl rfl rfl) (pmk_oex XC.oex XC.iC XC.tI G_init (hr.mono (by decide)) b_init .nil pass0 (by rfl) XC.gBadRule (pa_cons (pv 0) pa_nil)))) pss_nil)), ?_⟩
  refine ⟨_, rfl, _, _, rfl, rfl, _, rfl, ite3 (fun e => ?_) (fun e => k1 (by omega))⟩
  refine xc_mk XC.oex XC.noE ⟨_, rfl, V.int n, rfl, fun d H2 s2 hd => k2 (by omega) H2 d s2 hd⟩ (fun h z => ?_)
  obtain ⟨v, e, q⟩ := z
  exact ⟨v, e, h _ _ q⟩
abbrev s_told : Stmt := topS 9
abbrev N_told : List Str := ["table", "period", "rise", "rule"]
theorem sc_told : FnScope N_told ["table", "period", "rise"] (defScope s_told) := ⟨rfl, rfl, rfl, by decide +kernel, rfl, by decide +kernel, by decide +kernel⟩
theorem ok_told (T : Txt mg) (D : Df K mg "told" s_told ["table", "period", "rise"]) (C_check_told : CalX P w K mg base "check_told" ["number"] 3 (sp_check_told cTooLong)) (C_shortest : Cal P w K mg base "shortest" ["table", "period", "rise"] 2 (sp_shortest K)) : CalX P w K mg base "told" ["table", "period", "rise"] 4 (sp_toldX cTooLong) := by
  obtain ⟨f_check_told, fd_check_told, G_check_told, m_check_told, k_check_told, b_check_told⟩ := C_check_told
  obtain ⟨f_shortest, fd_shortest, G_shortest, m_shortest, k_shortest, b_shortest⟩ := C_shortest
  obtain ⟨f, fd, F, m, b⟩ := D
  refine ⟨f, fd, F.okX sc_told (fun vs H Q E h => ?_) (fun cdv A outer s H vs Q E hr h => ?_), m, F.kp, b⟩
  · obtain ⟨a, T0, p, r, rfl, _⟩ := h
    rfl
  obtain ⟨a, T0, p, r, rfl, hS, o, b, k⟩ := h
  have bl := b.len
  refine ⟨_, (pss_cons (ps_set (i := 3) sc_told.nd rfl (Or.inl rfl) (pe_call G_shortest (hr.mono (by decide)) (by rfl) m_shortest k_shortest b_shortest .nil pass0 (pa_cons (pv 0) (pa_cons (pv 1) (pa_cons (pv 2) pa_nil)))))
    (pss_cons (ps_expr (pe_callS G_check_told (hr.mono (by decide)) rfl m_check_told k_check_told b_check_told (fun σ => passAt (takes_of rfl rfl rfl rfl) σ) (pa_cons (pe_callB call_len_seq (by rfl) T.n_len (by decide +kernel) (pa_cons (pe_ix ix_tup (pv 3) pe_int (fun _ _ => rfl)) pa_nil)) pa_nil)))
    (pss_one (ps_ret (pv 3))))), ?_⟩
  refine ⟨_, rfl, _, rfl, _, rfl, a, T0, p, r, rfl, hS, o, b, fun H1 d' T' p' r' s1 R cut sh hv => ?_⟩
  obtain ⟨t, hd, ht⟩ := id R
  obtain ⟨k1, k2⟩ := k H1 d' T' p' r' s1 R cut sh hv
  refine ⟨_, rfl, _, _, _, _, rfl, rfl, SqT.of hd, atI_nat (j := 0) rfl, _, _, rfl, .inr (SqT.of ht), _, rfl, fun e => ?_, fun e => ?_⟩
  · rw [len_int] at e
    exact ⟨_, rfl, k1 (by omega)⟩
  · rw [len_int] at e ⊢
    exact k2 (by omega)
end
end Sm

set_option Elab.async false
set_option linter.all false
set_option maxRecDepth 100000
set_option maxHeartbeats 16000000
namespace Sm
open PySem PySem.Spec PyProof.Rows L2
open C8 (pss_cut tCut)
/-- the table of the greater values -/
def gtab (T1 : List Int) (p1 : Nat) (r1 : Int) (T2 : List Int) (p2 : Nat) (r2 : Int) (n : Nat) : List Int := (List.range n).map fun x => max (vl T1 p1 r1 x) (vl T2 p2 r2 x)
/-- told: the rule of the table, or TooLong with its length -/
def Told (c : Addr) (T : List Int) (p : Nat) (r : Int) (H : Hp) (Q : VK) (E : XK) : Prop := ∀ H' d' T' p' r', Same H H' → RuleAt H' d' T' p' r' → Cut T p r T' p' r' → Short T' p' r' → (∀ x, vl T' p' r' x = vl T p r x) → (T'.length ≤ 5000 → Q (.ref d') H') ∧ (5000 < T'.length → Lng c (T'.length : Int) H' E)
def sp_greater (c : Addr) : Sp := fun vs H Q E => ∃ (d1 d2 : Addr) (T1 T2 : List Int) (p1 p2 n k : Nat) (r1 r2 : Int), vs = [.ref d1, .ref d2, .int (n : Int), .int ((k * p1 : Nat) : Int)] ∧ RuleAt H d1 T1 p1 r1 ∧ RuleAt H d2 T2 p2 r2 ∧ RuleOk T1 p1 r1 ∧ RuleOk T2 p2 r2 ∧ RB T1 p1 r1 ∧ RB T2 p2 r2 ∧ n ≤ 5000 ∧
  RuleOk (gtab T1 p1 r1 T2 p2 r2 n) (k * p1) (r1 * (k : Int)) ∧ RB (gtab T1 p1 r1 T2 p2 r2 n) (k * p1) (r1 * (k : Int)) ∧ Told c (gtab T1 p1 r1 T2 p2 r2 n) (k * p1) (r1 * (k : Int)) H Q E
theorem max_if {a b : Int} : (if b > a then b else a) = max a b := by
  split <;> omega
section
variable {P : Program} {w : World} {K : PySem.W.Frag} {mg : Str → Option Value} {base : Heap} {cTooLong fB : Addr}
abbrev s_greater_values : Stmt := topS 21
abbrev N_greater_values : List Str := ["one", "other", "count", "turn", "left", "right", "x"]
theorem sc_greater_values : FnScope N_greater_values ["one", "other", "count", "turn"] (defScope s_greater_values) := ⟨rfl, rfl, rfl, by decide +kernel, rfl, by decide +kernel, by decide +kernel⟩
theorem ok_greater_values (T : Txt mg) (D : Df K mg "greater_values" s_greater_values ["one", "other", "count", "turn"]) (C_told : CalX P w K mg base "told" ["table", "period", "rise"] 4 (sp_toldX cTooLong)) (C_rise_in : Cal P w K mg base "rise_in" ["rule", "turn"] 1 (sp_rise_in K)) (C_values_to : Cal P w K mg base "values_to" ["rule", "count"] 1 (sp_values_to K)) : CalX P w K mg base "greater_values" ["one", "other", "count", "turn"] 5 (sp_greater cTooLong) := by
  obtain ⟨f_told, fd_told, G_told, m_told, k_told, b_told⟩ := C_told
  obtain ⟨f_rise_in, fd_rise_in, G_rise_in, m_rise_in, k_rise_in, b_rise_in⟩ := C_rise_in
  obtain ⟨f_values_to, fd_values_to, G_values_to, m_values_to, k_values_to, b_values_to⟩ := C_values_to
  obtain ⟨f, fd, F, m, b⟩ := D
  refine ⟨f, fd, F.okX sc_greater_values (fun vs H Q E h => ?_) (fun cdv A outer s H vs Q E hr h => ?_), m, F.kp, b⟩
  · obtain ⟨d1, d2, T1, T2, p1, p2, n, k, r1, r2, rfl, _⟩ := h
    rfl
  obtain ⟨d1, d2, T1, T2, p1, p2, n, kt, r1, r2, rfl, R1, R2, o1, o2, b1, b2, nb, og, bg, k⟩ := h
  refine ⟨_, (pss_cons (ps_set (i := 4) sc_greater_values.nd rfl (Or.inr rfl) (pe_call G_values_to (hr.mono (by decide)) (by rfl) m_values_to k_values_to b_values_to .nil pass0 (pa_cons (pv 0) (pa_cons (pv 2) pa_nil))))
    (pss_cons (ps_set (i := 5) sc_greater_values.nd rfl (Or.inr rfl) (pe_call G_values_to (hr.mono (by decide)) (by rfl) m_values_to k_values_to b_values_to .nil pass0 (pa_cons (pv 1) (pa_cons (pv 2) pa_nil))))
    (pss_one (ps_ret (pe_callS G_told (hr.mono (by decide)) rfl m_told k_told b_told (fun σ => passAt (takes_of rfl rfl rfl rfl) σ) (pa_cons (pe_lc (own := [("x", 6)]) (g := gName 6) (tt := tYes) rfl sc_greater_values.nd (pi_range1 (by rfl) T.n_range (pa_cons (pv 2) pa_nil)) (blkOk_by (own := [("x", 6)]) (N := N_greater_values) (sc := defScope s_greater_values) (by decide +kernel)) (fun _ _ _ _ _ => pg_name (i := 6) sc_greater_values.nd rfl (Or.inl rfl)) (fun _ _ _ _ _ => pts_nil) (fun _ _ _ _ _ => (pe_callB (call_max2 rfl) (by rfl) T.n_max (by decide +kernel) (pa_cons (pe_ix (show IxR _ (rIxL K) from ix_list) (pv 4) (pv 6) (fun _ _ => rfl)) (pa_cons (pe_ix (show IxR _ (rIxL K) from ix_list) (pv 5) (pv 6) (fun _ _ => rfl)) pa_nil))))) (pa_cons (pv 3) (pa_cons (pe_call G_rise_in (hr.mono (by decide)) (by rfl) m_rise_in k_rise_in b_rise_in .nil pass0 (pa_cons (pv 0) (pa_cons (pv 3) pa_nil))) pa_nil)))))))), ?_⟩
  refine ⟨_, rfl, _, rfl, d1, T1, p1, r1, n, rfl, R1, o1, b1, (by omega), fun HA qa sA neA hqa => ?_⟩
  refine ⟨_, rfl, _, rfl, d2, T2, p2, r2, n, rfl, R2.same sA, o2, b2, (by omega), fun HB qb sB neB hqb => ?_⟩
  have hqa2 := sB _ _ hqa
  have s2 := sA.trans sB
  refine ⟨_, rfl, _, rfl, by omega, by omega, fun U nU => ?_⟩
  have sU := same_upd (o := .lst []) nU
  rw [Int.toNat_natCast]
  refine lc_range (lo := 0) (n := n) (fun j H' => Same HB H' ∧ H' U = some (.lst ((gtab T1 p1 r1 T2 p2 r2 j).map V.int))) ⟨sU, upd_same⟩ ?_ ?_
  · rintro j H' hj ⟨s', hU⟩
    refine ⟨rfl, ?_⟩
    unfold tYes
    refine iteT ?_
    refine ⟨_, rfl, _, rfl, _, _, _, _, rfl, rfl, SqL.of (s' _ _ hqa2), at_of (j := j) (Int.zero_add _) (vals_get hj), _, rfl, _, rfl, _, _, _, _, rfl, rfl, SqL.of (s' _ _ hqb), at_of (j := j) (Int.zero_add _) (vals_get hj), _, _, rfl, _, hU, ?_, fun b o e => ?_, ?_⟩
    · unfold gtab
      rw [List.length_map, List.length_map, List.length_range]
      exact Nat.lt_of_le_of_lt (show j ≤ 5000 by omega) (by decide)
    · rw [upd_ne (ne_of_none e nU)]
      exact s' _ _ e
    · rw [upd_same, max_if]
      unfold gtab
      rw [List.range_succ, List.map_append, List.map_append]
      rfl
  rintro H3 ⟨s3, hU⟩
  have s13 := s2.trans s3
  refine ⟨_, rfl, _, rfl, _, rfl, d1, T1, p1, r1, kt * p1, rfl, R1.same s13, o1, b1, ?_⟩
  rw [Nat.mul_div_cancel _ o1.p0]
  exact ⟨U, _, _, _, rfl, hU, og, bg, fun H' d' T' p' r' s' R c sh hv => k H' d' T' p' r' (s13.trans s') R c sh hv⟩
end
end Sm

set_option linter.all false
set_option maxRecDepth 100000
namespace Sm
/-- the last amount at which d is above 0, or -1 -/
def IsLast (d : Nat → Int) (L : Int) : Prop := (L = -1 ∨ ∃ n : Nat, L = (n : Int) ∧ 0 < d n) ∧ ∀ x : Nat, 0 < d x → (x : Int) ≤ L
def earlyL (d : Nat → Int) (n : Nat) : List Int := ((List.range n).filter fun x => decide (0 < d x)).map fun (x : Nat) => (x : Int)
def lateL (d : Nat → Int) (B t : Nat) (g : Int) (n : Nat) : List Int := ((List.range n).filter fun i => decide (0 < d (B + i))).map fun i => ((B + i : Nat) : Int) + (t : Int) * ((d (B + i) - 1) / g)
theorem down_turns {d : Nat → Int} {B t : Nat} {g : Int} (h : ∀ x, B ≤ x → d (x + t) = d x - g) {x : Nat} (hx : B ≤ x) : ∀ k : Nat, d (x + k * t) = d x - (k : Int) * g
  | 0 => by simp
  | k + 1 => by
    have ih := down_turns h hx k
    rw [show x + (k + 1) * t = x + k * t + t by rw [Nat.add_mul, Nat.one_mul, Nat.add_assoc], h _ (by omega), ih, Int.natCast_add, Int.add_mul]
    simp
    omega
theorem last_of {d : Nat → Int} {B t : Nat} {g M : Int} (t0 : 0 < t) (hg : 0 < g) (h : ∀ x, B ≤ x → d (x + t) = d x - g) (up : ∀ y ∈ earlyL d B ++ lateL d B t g t, y ≤ M) : ∀ x : Nat, 0 < d x → (x : Int) ≤ M := by
  intro x hx
  by_cases q : x < B
  · refine up _ (List.mem_append_left _ (List.mem_map.mpr ⟨x, List.mem_filter.mpr ⟨List.mem_range.mpr q, decide_eq_true hx⟩, rfl⟩))
  · obtain ⟨y, k, h1, h2, rfl⟩ := split_turn t0 (show B ≤ x by omega)
    have e := down_turns h h1 k
    rw [e] at hx
    have k0 : 0 ≤ (k : Int) * g := Int.mul_nonneg (by omega) (by omega)
    have hk : (k : Int) ≤ (d y - 1) / g := (Int.le_ediv_iff_mul_le hg).mpr (by omega)
    have m := up (((B + (y - B) : Nat) : Int) + (t : Int) * ((d (B + (y - B)) - 1) / g)) (List.mem_append_right _ (List.mem_map.mpr ⟨y - B, List.mem_filter.mpr ⟨List.mem_range.mpr (by omega), decide_eq_true (by rw [show B + (y - B) = y by omega]; omega)⟩, rfl⟩))
    rw [show B + (y - B) = y by omega] at m
    have hm : (t : Int) * (k : Int) ≤ (t : Int) * ((d y - 1) / g) := Int.mul_le_mul_of_nonneg_left hk (by omega)
    rw [Int.natCast_add, Int.natCast_mul, Int.mul_comm]
    omega
theorem last_in {d : Nat → Int} {B t : Nat} {g M : Int} (hg : 0 < g) (h : ∀ x, B ≤ x → d (x + t) = d x - g) (hm : M ∈ earlyL d B ++ lateL d B t g t) : ∃ n : Nat, M = (n : Int) ∧ 0 < d n := by
  rcases List.mem_append.mp hm with m | m
  · obtain ⟨x, hx, rfl⟩ := List.mem_map.mp m
    exact ⟨x, rfl, of_decide_eq_true (List.mem_filter.mp hx).2⟩
  · obtain ⟨i, hi, rfl⟩ := List.mem_map.mp m
    have di := of_decide_eq_true (List.mem_filter.mp hi).2
    have q0 : 0 ≤ (d (B + i) - 1) / g := Int.ediv_nonneg (by omega) (by omega)
    refine ⟨B + i + ((d (B + i) - 1) / g).toNat * t, ?_, ?_⟩
    · rw [Int.natCast_add (B + i), Int.natCast_mul, Int.toNat_of_nonneg q0, Int.mul_comm]
    · rw [down_turns h (by omega), Int.toNat_of_nonneg q0]
      have a := Int.mul_ediv_add_emod (d (B + i) - 1) g
      have b := Int.emod_nonneg (d (B + i) - 1) (show g ≠ 0 by omega)
      rw [Int.mul_comm] at a
      omega
theorem last_is {d : Nat → Int} {B t : Nat} {g : Int} (t0 : 0 < t) (hg : 0 < g) (h : ∀ x, B ≤ x → d (x + t) = d x - g) {ns : List Int} (hns : ns = earlyL d B ++ lateL d B t g t) :
    (ns = [] → IsLast d (-1)) ∧ ∀ m, m ∈ ns → (∀ y, y ∈ ns → y ≤ m) → IsLast d m := by
  subst hns
  refine ⟨fun e => ⟨.inl rfl, last_of t0 hg h fun y hy => by rw [e] at hy; exact nomatch hy⟩, fun m hm hle => ⟨.inr (last_in hg h hm), last_of t0 hg h hle⟩⟩
end Sm

set_option Elab.async false
set_option linter.all false
set_option maxRecDepth 100000
set_option maxHeartbeats 4000000
namespace Sm
open PySem PySem.Spec PyProof.Rows L2
/-! ### max of a list, with a default -/
theorem max_loop_kw {prog : Program} {w : World} {A : Around} {R : Result → Shared → Prop} {I : Addr} {fp wr : List Addr} {n : Nat} {P : Nat → Value → Prop} {St : Nat → Heap → Prop} (W : Walks prog w A.in1 I fp wr n P St) (bt : Nat → Nat → Bool) (hcmp : CmpOf prog w A.in1 CmpOp.Gt P bt)
    (S : Addr) (hSf : ¬ S ∈ fp) (kw : List (Str × Value)) : ∀ (k j : Nat) (s : Shared) (vb : Value) (c : Nat), n - (j + 1) = k → j + 1 ≤ n → St (j + 1) s.heap → P (argBest bt j) vb → s.heap.get? S = some { cls := Value.type "list", data := Data.seq #[vb, vb] c } →
      (∀ (v : Value) (h' : Heap) (tk : Nat), P (argBest bt (n - 1)) v → (∀ (b : Addr) (o : Obj), ¬ b ∈ wr → b ≠ S → s.heap.get? b = some o → h'.get? b = some o) → R (Except.ok (Flow.ret v)) { heap := h', gens := s.gens, drawn := s.drawn, toks := tk, os := s.os }) →
      codeAny (model prog w) A (Code.builtin "max.loop" { pos := [Value.ref I, Value.none, Value.ref S], kw := kw }) R s := by
  have hSw : ¬ S ∈ wr := fun h => hSf (W.sub S h)
  intro k
  induction k with
  | zero =>
    intro j s vb c hk hj hst hPb hS hR
    have hin : j + 1 = n := by omega
    refine codeAny_builtin F.entry_max_loop ?_
    rw [Around.under_plainId F.plain_max_loop]
    refine wpAny_bind (wpAny_seqItems hS rfl (wpAny_bind (wpAny_tryCatch (W.done s _ _ (hin ▸ hst) fun h' tk hk' => ?_))))
    have hS' := hk' S _ hSw hS
    refine wpAny_bind (wpAny_updateSeq hS' rfl (wpAny_bind (wpAny_letGo (wpAny_pure (hR vb _ tk ?_ fun b o hbw hbS e => ?_)))) ?_ ?_)
    · rw [← hin]
      exact hPb
    · exact (Heap.get?_update_other _ _ (Ne.symm hbS)).trans (hk' b o hbw e)
    · show 2 ≤ sizeLine
      decide
    · show 0 ≤ sizeLine + 1
      exact Nat.zero_le _
  | succ k ih =>
    intro j s vb c hk hj hst hPb hS hR
    have hlt : j + 1 < n := by omega
    refine codeAny_builtin F.entry_max_loop ?_
    rw [Around.under_plainId F.plain_max_loop]
    refine wpAny_bind (wpAny_seqItems hS rfl (wpAny_bind (wpAny_tryCatch (W.item (j + 1) s _ _ hlt hst fun v h' tk hP hst' hk' => ?_))))
    have hS' := hk' S _ hSw hS
    have hname : (toString "max" ++ toString ".loop" : String) = "max.loop" := by decide
    refine wpAny_bind (wpAny_pure ?_)
    refine wpAny_bind (wpAny_tryCatch (wpAny_holding (wpAny_bind (hcmp (j + 1) (argBest bt j) v vb _ _ _ hP hPb (wpAny_bind (wpAny_holding (wpAny_truthy_bool (wpAny_bind (wpAny_letGo (wpAny_pure ?_))))))))))
    have ab : argBest bt (j + 1) = if bt (j + 1) (argBest bt j) = true then j + 1 else argBest bt j := rfl
    cases hb : bt (j + 1) (argBest bt j) with
    | false =>
      rw [hb] at ab
      refine wpAny_ite_false rfl (wpAny_bind (wpAny_letGo ?_))
      rw [hname]
      exact wpAny_pure ⟨plainId_quiet F.plain_max_loop _, ih (j + 1) _ vb c (by omega) (by omega) hst' (by rw [ab]; exact hPb) hS' fun v' h'' tk'' hP' hk'' => hR v' h'' tk'' hP' fun b o hbw hbS e => hk'' b o hbw hbS (hk' b o hbw e)⟩
    | true =>
      rw [hb] at ab
      refine wpAny_ite_true rfl (wpAny_bind (wpAny_updateSeq hS' rfl (wpAny_bind (wpAny_letGo ?_)) ?_ ?_))
      · rw [hname]
        refine wpAny_pure ⟨plainId_quiet F.plain_max_loop _, ih (j + 1) _ v _ (by omega) (by omega) (W.frame _ _ _ hst' fun b hb' o e => (Heap.get?_update_other _ _ (fun q => hSf (by rw [q]; exact hb'))).trans e) (by rw [ab]; exact hP) (Heap.get?_update_self _ hS' rfl) fun v' h'' tk'' hP' hk'' => hR v' h'' tk'' hP' fun b o hbw hbS e => hk'' b o hbw hbS ((Heap.get?_update_other _ _ (Ne.symm hbS)).trans (hk' b o hbw e))⟩
      · show 2 ≤ sizeLine
        decide
      · show 2 ≤ sizeLine + 1
        decide
theorem max_first_kw {prog : Program} {w : World} {A : Around} {R : Result → Shared → Prop} {I : Addr} {fp wr : List Addr} {n : Nat} {P : Nat → Value → Prop} {St : Nat → Heap → Prop} (W : Walks prog w A.in1 I fp wr n P St) (bt : Nat → Nat → Bool) (hcmp : CmpOf prog w A.in1 CmpOp.Gt P bt)
    (S : Addr) (hSf : ¬ S ∈ fp) (x : Str) (d : Value) {s : Shared} {c : Nat} (hst : St 0 s.heap) (hS : s.heap.get? S = some { cls := Value.type "list", data := Data.seq #[] c })
    (h0 : n = 0 → ∀ h' tk, (∀ (b : Addr) (o : Obj), ¬ b ∈ wr → s.heap.get? b = some o → h'.get? b = some o) → R (Except.ok (Flow.ret d)) { heap := h', gens := s.gens, drawn := s.drawn, toks := tk, os := s.os })
    (hR : 0 < n → ∀ (v : Value) (h' : Heap) (tk : Nat), P (argBest bt (n - 1)) v → (∀ (b : Addr) (o : Obj), ¬ b ∈ wr → b ≠ S → s.heap.get? b = some o → h'.get? b = some o) → R (Except.ok (Flow.ret v)) { heap := h', gens := s.gens, drawn := s.drawn, toks := tk, os := s.os }) :
    codeAny (model prog w) A (Code.builtin "max.loop" { pos := [Value.ref I, Value.none, Value.ref S], kw := [(x, d)] }) R s := by
  have hSw : ¬ S ∈ wr := fun h => hSf (W.sub S h)
  have hname : (toString "max" ++ toString ".loop" : String) = "max.loop" := by decide
  refine codeAny_builtin F.entry_max_loop ?_
  rw [Around.under_plainId F.plain_max_loop]
  by_cases hn : 0 < n
  · refine wpAny_bind (wpAny_seqItems hS rfl (wpAny_bind (wpAny_tryCatch (W.item 0 s _ _ hn hst fun v h' tk hP hst' hk' => ?_))))
    have hS' := hk' S _ hSw hS
    refine wpAny_bind (wpAny_pure ?_)
    refine wpAny_bind (wpAny_updateSeq hS' rfl ?_ ?_ ?_)
    · rw [hname]
      refine wpAny_pure ⟨plainId_quiet F.plain_max_loop _, max_loop_kw W bt hcmp S hSf _ (n - (0 + 1)) 0 _ v _ rfl hn (W.frame _ _ _ hst' fun b hb' o e => (Heap.get?_update_other _ _ (fun q => hSf (by rw [q]; exact hb'))).trans e) hP (Heap.get?_update_self _ hS' rfl) fun v' h'' tk'' hP' hk'' => hR hn v' h'' tk'' hP' fun b o hbw hbS e => hk'' b o hbw hbS ((Heap.get?_update_other _ _ (Ne.symm hbS)).trans (hk' b o hbw e))⟩
    · show 0 ≤ sizeLine
      exact Nat.zero_le _
    · show 2 ≤ sizeLine + 1
      decide
  · have z : n = 0 := by omega
    subst z
    refine wpAny_bind (wpAny_seqItems hS rfl (wpAny_bind (wpAny_tryCatch (W.done s _ _ hst fun h' tk hk' => ?_))))
    exact wpAny_bind (wpAny_rule (wpAny_pure (h0 rfl h' tk hk')))
theorem intSize (xs : Array (Int × Tok)) : (intItems xs).size = xs.size := by simp [intItems]
theorem max_kw {prog : Program} {w : World} {A : Around} {E : Value → Shared → Prop} {s : Shared} {l : Addr} {xs : Array (Int × Tok)} {x : Value} {Q : Value → Shared → Prop} (hh : A.handled = none) (hl : s.heap.IsList l (intItems xs))
    (h0 : xs.size = 0 → ∀ h' tk, (∀ (b : Addr) (o : Obj), s.heap.get? b = some o → h'.get? b = some o) → Q x { heap := h', gens := s.gens, drawn := s.drawn, toks := tk, os := s.os })
    (hR : 0 < xs.size → ∀ v h' tk, (intItems xs)[argBest (fun i j => decide (numAt xs i > numAt xs j)) (xs.size - 1)]? = some v → (∀ (b : Addr) (o : Obj), s.heap.get? b = some o → h'.get? b = some o) → Q v { heap := h', gens := s.gens, drawn := s.drawn, toks := tk, os := s.os }) :
    wpAny (model prog w) A (call (Value.builtin "max") [Value.ref l] [(Str.ofString "default", x)]) Q E s := by
  have hname : (toString "max" ++ toString ".loop" : String) = "max.loop" := by decide
  refine PyProof.Rows.kmk_tree F.kind_max F.plain_max F.entry_max rfl ?_
  have hbind : Builtin.Builtins.bindParams "max" ["key", "default"] 0 { kw := [(Str.ofString "default", x)] } = pure [none, some x] := rfl
  refine wpAny_bind (wpAny_of_eq hbind (wpAny_bind (wpAny_pure ?_)))
  refine wpAny_bind (wpAny_pyIter_list hl (wpAny_bind (wpAny_newObj_type ?_ ?_)))
  rotate_left
  · show 0 ≤ sizeLine
    exact Nat.zero_le _
  have hlt : l < s.heap.objs.size := by
    obtain ⟨o, e, _⟩ := hl
    exact Heap.lt_size e
  have ne : l ≠ s.heap.objs.size := Nat.ne_of_lt hlt
  have sz : (s.heap.push { cls := Value.type "list_iterator", data := Data.fields #[Value.ref l, Value.int 0 0] }).objs.size = s.heap.objs.size + 1 := Heap.size_push _ _
  have keep : ∀ (b : Addr) (o : Obj), s.heap.get? b = some o → ((s.heap.push { cls := Value.type "list_iterator", data := Data.fields #[Value.ref l, Value.int 0 0] }).push { cls := Value.type "list", data := Data.seq #[] }).get? b = some o := fun b o e => Heap.get?_push_of_some _ (Heap.get?_push_of_some _ e)
  rw [hname]
  refine wpAny_pure ⟨plainId_quiet F.plain_max_loop _, ?_⟩
  refine max_first_kw (Walks.list (A := A.in1) hh s.heap.objs.size l ne (intItems xs)) (fun i j => decide (numAt xs i > numAt xs j)) (CmpOf.ints_gt (numAt xs) fun i v hv => ?_) _ ?_ _ _ ⟨⟨_, Heap.get?_push_of_some _ (Heap.get?_push_size s.heap rfl), rfl, rfl⟩, hl.at fun o e => keep l o e⟩ (Heap.get?_push_size _ rfl) (fun hz h' tk hk => ?_) (fun hn v h' tk hv hk => ?_)
  · obtain ⟨t, e⟩ := intItems_at hv
    exact ⟨t, e⟩
  · intro hm
    rw [sz] at hm
    rcases List.mem_cons.mp hm with q | q
    · exact absurd q (Nat.succ_ne_self _)
    · have q := List.mem_singleton.mp q
      exact absurd hlt (by rw [← q]; exact Nat.not_lt.mpr (Nat.le_succ _))
  · refine h0 (by rw [← intSize xs]; exact hz) h' tk fun b o e => hk b o ?_ (keep b o e)
    intro q
    have q := List.mem_singleton.mp q
    have lt := Heap.lt_size e
    rw [q] at lt
    exact Nat.lt_irrefl _ lt
  · refine hR ?_ v h' tk ?_ fun b o e => hk b o ?_ ?_ (keep b o e)
    · rw [← intSize xs]
      exact hn
    · rw [← intSize xs]
      exact hv
    · intro q
      have q := List.mem_singleton.mp q
      have lt := Heap.lt_size e
      rw [q] at lt
      exact Nat.lt_irrefl _ lt
    · rw [sz]
      have lt := Heap.lt_size e
      exact Nat.ne_of_lt (Nat.lt_succ_of_lt lt)
theorem max_kw_ints {prog : Program} {w : World} {A : Around} {E : Value → Shared → Prop} {s : Shared} {l : Addr} {its : List Value} {ns : List Int} {x : Value} {Q : Value → Shared → Prop} (hh : A.handled = none) (hl : s.heap.IsList l its.toArray) (hi : PyProof.Rows.IntsAre its ns)
    (h0 : ns = [] → ∀ h' tk, (∀ (b : Addr) (o : Obj), s.heap.get? b = some o → h'.get? b = some o) → Q x { heap := h', gens := s.gens, drawn := s.drawn, toks := tk, os := s.os })
    (hR : ∀ (h' : Heap) (tk : Nat) (M : Int) (t' : Tok), (∀ (b : Addr) (o : Obj), s.heap.get? b = some o → h'.get? b = some o) → M ∈ ns → (∀ a, a ∈ ns → a ≤ M) → Q (Value.int M t') { heap := h', gens := s.gens, drawn := s.drawn, toks := tk, os := s.os }) :
    wpAny (model prog w) A (call (Value.builtin "max") [Value.ref l] [(Str.ofString "default", x)]) Q E s := by
  obtain ⟨xs, e⟩ := AllInts.items (PyProof.Rows.IntsAre.allInts hi)
  have hn : numsOf (intItems xs).toList = ns := by
    rw [← e]
    exact PyProof.Rows.IntsAre.numsOf hi
  rw [nums_intItems] at hn
  rw [e] at hl
  have ln : ns.length = xs.size := by rw [← hn]; simp
  refine max_kw hh hl (fun hz h' tk hk => h0 (List.length_eq_zero_iff.mp (by rw [ln]; exact hz)) h' tk hk) (fun hp v h' tk hv hk => ?_)
  obtain ⟨t, rfl⟩ := intItems_at hv
  obtain ⟨g1, g2⟩ := argBest_gt (numAt xs) (xs.size - 1)
  have nd : ∀ j, numAt xs j = ns.getD j 0 := fun j => by rw [← hn]; exact numAt_eq xs j
  refine hR h' tk _ t hk ?_ fun a ha => ?_
  · rw [nd]
    have lt : argBest (fun i j => decide (numAt xs i > numAt xs j)) (xs.size - 1) < ns.length := by omega
    rw [List.getD_eq_getElem?_getD, List.getElem?_eq_getElem lt]
    exact List.getElem_mem lt
  · obtain ⟨j, hj, rfl⟩ := List.mem_iff_getElem.mp ha
    have q := g2 j (by omega)
    rw [nd j, List.getD_eq_getElem?_getD, List.getElem?_eq_getElem hj] at q
    exact q
section
variable {X : Cx}
def rMaxDef (K : PySem.W.Frag) (i : Int) : List V → Hp → VK → Prop := fun vs H Q => ∃ (a : Addr) (ns : List Int), vs = [V.ref a] ∧ SqL K H a (ns.map V.int) ∧ (ns = [] → Q (.int i) H) ∧ ∀ m, m ∈ ns → (∀ y, y ∈ ns → y ≤ m) → Q (.int m) H
theorem pe_maxDef {e : Expr} {t : TA} {p pos cp kp : Pos} {i : Int} {j : Nat} (hc : X.calm = true) (hg : Gl X "max") (hm : X.mg "max" = none) (ha : PA X [e] t) (he : starEach [e] X.env = (false, eval e X.env) :: starEach [] X.env := by rfl)
    (hpl : ((backTo pos (starEach [e] X.env)).any fun x => x.1) = false := by rfl) :
    PE X (.Call (.Name "max" p) [e] [{ arg := some "default", value := .Constant (.int i) j cp, pos := kp }] pos) (tCB (rMaxDef X.K i) t) := by
  constructor
  intro pins s σ H Q I want
  refine wpAny_Call_Name_kw (ld_blt I hg hm (u := .builtin "max") rfl ?_)
  refine PyProof.Rows.callWith_kw (thn (ha.run pos pins s σ H _ I want) ?_) (by rw [he]; rfl) hpl rfl rfl
  rintro us s1 ⟨vs, H1, I1, rel, a, ns, rfl, hs, h0, hR⟩
  refine wpAny_evalAll_cons ?_
  refine wpAny_bind (wpAny_mono ((pe_int (X := X) (i := i) (j := j) (pos := cp)).run pins s1 σ H1 (fun v H' => v = .int i ∧ H' = H1) I1 ⟨rfl, rfl⟩) ?_ (fun _ _ q => q))
  rintro u s2 ⟨v, H2, I2, ru, rfl, rfl⟩
  refine wpAny_bind (wpAny_standAt (wpAny_pure ?_))
  refine wpAny_evalAll_nil ?_
  obtain ⟨its, rv, hl, hz⟩ := I2.list hs
  rw [Vals.ref1 rel]
  exact max_kw_ints (I2.ok.hd hc) (PlainL.isList hl) (Vals.ints rv) (fun e h' tk hk => ⟨_, _, I2.kept hk, ru, h0 e⟩) (fun h' tk M t' hk h1 h2 => ⟨.int M, _, I2.kept hk, ⟨t', rfl⟩, hR M h1 h2⟩)
end
end Sm

set_option Elab.async false
set_option linter.all false
set_option maxRecDepth 100000
set_option maxHeartbeats 4000000
namespace Sm
open PySem PySem.Spec PyProof.Rows L2
section
variable {X : Cx}
/-- max(list, default=ed), ed told to be the int i -/
theorem pe_maxDefE {e ed : Expr} {t : TA} {td : TE} {p pos kp : Pos} {i : Int} (hc : X.calm = true) (hg : Gl X "max") (hm : X.mg "max" = none) (hd : PE X ed td) (hi : ∀ σ H (Q : VK), Q (.int i) H → td σ H Q) (ha : PA X [e] t) (he : starEach [e] X.env = (false, eval e X.env) :: starEach [] X.env := by rfl)
    (hpl : ((backTo pos (starEach [e] X.env)).any fun x => x.1) = false := by rfl) :
    PE X (.Call (.Name "max" p) [e] [{ arg := some "default", value := ed, pos := kp }] pos) (tCB (rMaxDef X.K i) t) := by
  constructor
  intro pins s σ H Q I want
  refine wpAny_Call_Name_kw (ld_blt I hg hm (u := .builtin "max") rfl ?_)
  refine PyProof.Rows.callWith_kw (thn (ha.run pos pins s σ H _ I want) ?_) (by rw [he]; rfl) hpl rfl rfl
  rintro us s1 ⟨vs, H1, I1, rel, a, ns, rfl, hs, h0, hR⟩
  refine wpAny_evalAll_cons ?_
  refine wpAny_bind (wpAny_mono (hd.run pins s1 σ H1 (fun v H' => v = .int i ∧ H' = H1) I1 (hi _ _ _ ⟨rfl, rfl⟩)) ?_ (fun _ _ q => q))
  rintro u s2 ⟨v, H2, I2, ru, rfl, rfl⟩
  refine wpAny_bind (wpAny_standAt (wpAny_pure ?_))
  refine wpAny_evalAll_nil ?_
  obtain ⟨its, rv, hl, hz⟩ := I2.list hs
  rw [Vals.ref1 rel]
  exact max_kw_ints (I2.ok.hd hc) (PlainL.isList hl) (Vals.ints rv) (fun e h' tk hk => ⟨_, _, I2.kept hk, ru, h0 e⟩) (fun h' tk M t' hk h1 h2 => ⟨.int M, _, I2.kept hk, ⟨t', rfl⟩, hR M h1 h2⟩)
end
end Sm

set_option Elab.async false
set_option linter.all false
set_option maxRecDepth 100000
set_option maxHeartbeats 16000000
namespace Sm
open PySem PySem.Spec PyProof.Rows L2
open C8 (pss_cut tCut)
def sp_last_above (_ : PySem.W.Frag) : Sp := fun vs H Q _ => ∃ (d1 d2 : Addr) (T1 T2 : List Int) (p1 p2 : Nat) (r1 r2 : Int), vs = [.ref d1, .ref d2] ∧ RuleAt H d1 T1 p1 r1 ∧ RuleAt H d2 T2 p2 r2 ∧ RuleOk T1 p1 r1 ∧ RuleOk T2 p2 r2 ∧ RS 10000000000000 T1 p1 r1 ∧ RS 10000000000000 T2 p2 r2 ∧ r1 * (p2 : Int) < r2 * (p1 : Int) ∧
  ∀ H' L, Same H H' → IsLast (fun x => vl T1 p1 r1 x - vl T2 p2 r2 x) L → Q (.int L) H'
theorem maxDef_set {K : PySem.W.Frag} {σ : L2.St} {U : Addr} {ns : List Int} {i : Int} {H : Hp} {Q : VK} (hU : H U = some (.lst (ns.map V.int))) (h0 : ns = [] → Q (.int i) H) (h1 : ∀ m, m ∈ ns → (∀ y, y ∈ ns → y ≤ m) → Q (.int m) H) : tNil σ H (fun xs H2 => rMaxDef K i (V.ref U :: xs) H2 Q) :=
  ⟨U, ns, rfl, SqL.of hU, h0, h1⟩
theorem late_pos {d : Nat → Int} {B t j : Nat} {g : Int} (h : 0 < d (B + j)) : lateL d B t g (j + 1) = lateL d B t g j ++ [((B + j : Nat) : Int) + (t : Int) * ((d (B + j) - 1) / g)] := by
  unfold lateL
  rw [List.range_succ, List.filter_append, List.map_append, List.filter_cons_of_pos (by exact decide_eq_true h)]
  rfl
theorem late_neg {d : Nat → Int} {B t j : Nat} {g : Int} (h : ¬ 0 < d (B + j)) : lateL d B t g (j + 1) = lateL d B t g j := by
  unfold lateL
  rw [List.range_succ, List.filter_append, List.filter_cons_of_neg (by rw [decide_eq_false h]; exact Bool.false_ne_true), List.filter_nil, List.append_nil]
theorem early_pos {d : Nat → Int} {j : Nat} (h : 0 < d j) : earlyL d (j + 1) = earlyL d j ++ [(j : Int)] := by
  unfold earlyL
  rw [List.range_succ, List.filter_append, List.map_append, List.filter_cons_of_pos (by exact decide_eq_true h)]
  rfl
theorem early_neg {d : Nat → Int} {j : Nat} (h : ¬ 0 < d j) : earlyL d (j + 1) = earlyL d j := by
  unfold earlyL
  rw [List.range_succ, List.filter_append, List.filter_cons_of_neg (by rw [decide_eq_false h]; exact Bool.false_ne_true), List.filter_nil, List.append_nil]
theorem late_len {d : Nat → Int} {B t j : Nat} {g : Int} : (lateL d B t g j).length ≤ j := by
  unfold lateL
  rw [List.length_map]
  exact Nat.le_trans (List.length_filter_le ..) (by rw [List.length_range]; exact Nat.le_refl _)
theorem early_len {d : Nat → Int} {j : Nat} : (earlyL d j).length ≤ j := by
  unfold earlyL
  rw [List.length_map]
  exact Nat.le_trans (List.length_filter_le ..) (by rw [List.length_range]; exact Nat.le_refl _)
section
variable {P : Program} {w : World} {K : PySem.W.Frag} {mg : Str → Option Value} {base : Heap}
abbrev s_last_above : Stmt := topS 22
abbrev N_last_above : List Str := ["flat", "steep", "begin", "turn", "left", "right", "loss", "late", "early", "x"]
theorem sc_last_above : FnScope N_last_above ["flat", "steep"] (defScope s_last_above) := ⟨rfl, rfl, rfl, by decide +kernel, rfl, by decide +kernel, by decide +kernel⟩
theorem ok_last_above (T : Txt mg) (D : Df K mg "last_above" s_last_above ["flat", "steep"]) (C_rise_in : Cal P w K mg base "rise_in" ["rule", "turn"] 1 (sp_rise_in K)) (C_values_to : Cal P w K mg base "values_to" ["rule", "count"] 1 (sp_values_to K)) (C_common_turn : Cal P w K mg base "common_turn" ["one", "other"] 2 (sp_common_turn K)) : Cal P w K mg base "last_above" ["flat", "steep"] 3 (sp_last_above K) := by
  obtain ⟨f_rise_in, fd_rise_in, G_rise_in, m_rise_in, k_rise_in, b_rise_in⟩ := C_rise_in
  obtain ⟨f_values_to, fd_values_to, G_values_to, m_values_to, k_values_to, b_values_to⟩ := C_values_to
  obtain ⟨f_common_turn, fd_common_turn, G_common_turn, m_common_turn, k_common_turn, b_common_turn⟩ := C_common_turn
  refine D.cal sc_last_above (fun vs H Q E h => ?_) (fun f cdv A outer s H vs Q E hr h => ?_)
  · obtain ⟨d1, d2, T1, T2, p1, p2, r1, r2, rfl, _⟩ := h
    rfl
  obtain ⟨d1, d2, T1, T2, p1, p2, r1, r2, rfl, R1, R2, o1, o2, s1, s2, steep, k⟩ := h
  have l1 := o1.p1
  have l2 := o2.p1
  have z1 := o1.p0
  have z2 := o2.p0
  have b1 := s1.rb (by decide)
  have b2 := s2.rb (by decide)
  have bl1 := s1.len
  have bl2 := s2.len
  have c1 := s1.turn
  have c2 := s2.turn
  obtain ⟨ka, hka⟩ := Nat.dvd_lcm_left p1 p2
  obtain ⟨kb, hkb⟩ := Nat.dvd_lcm_right p1 p2
  have lcm0 : 0 < Nat.lcm p1 p2 := Nat.lcm_pos z1 z2
  have lcm1 : Nat.lcm p1 p2 ≤ 1600 := by
    have h1 : Nat.lcm p1 p2 ≤ p1 * p2 := PySem.W.mc_lcm_le p1 p2
    have h2 : p1 * p2 ≤ 40 * 40 := Nat.mul_le_mul c1 c2
    omega
  have da : Nat.lcm p1 p2 / p1 = ka := by rw [hka]; exact Nat.mul_div_cancel_left ka z1
  have db : Nat.lcm p1 p2 / p2 = kb := by rw [hkb]; exact Nat.mul_div_cancel_left kb z2
  have ea : ka * p1 = Nat.lcm p1 p2 := by rw [Nat.mul_comm]; exact hka.symm
  have eb : kb * p2 = Nat.lcm p1 p2 := by rw [Nat.mul_comm]; exact hkb.symm
  have loss : 0 < r2 * (kb : Int) - r1 * (ka : Int) := by
    have k0 : 0 < ka := Nat.pos_of_ne_zero fun q => by rw [q, Nat.zero_mul] at ea; omega
    have ce : (ka : Int) * (p1 : Int) = (kb : Int) * (p2 : Int) := by
      rw [← Int.natCast_mul, ← Int.natCast_mul, ea, eb]
    have h1 : r1 * (p2 : Int) * (ka : Int) < r2 * (p1 : Int) * (ka : Int) := Int.mul_lt_mul_of_pos_right steep (by omega)
    have h2 : r2 * (p1 : Int) * (ka : Int) = r2 * (kb : Int) * (p2 : Int) := by
      rw [Int.mul_assoc, Int.mul_comm (p1 : Int), ce, ← Int.mul_assoc]
    have h3 : r1 * (p2 : Int) * (ka : Int) = r1 * (ka : Int) * (p2 : Int) := by
      rw [Int.mul_assoc, Int.mul_comm (p2 : Int), ← Int.mul_assoc]
    rw [h2, h3] at h1
    have := Int.lt_of_mul_lt_mul_right h1 (by omega)
    omega
  have turn0 : ∀ x, max (T1.length - p1) (T2.length - p2) ≤ x → vl T1 p1 r1 (x + ka * p1) - vl T2 p2 r2 (x + ka * p1) = vl T1 p1 r1 x - vl T2 p2 r2 x - (r2 * (kb : Int) - r1 * (ka : Int)) := fun x hx => by
    have := gp_turn o1.w o2.w (B := max (T1.length - p1) (T2.length - p2)) (by omega) (by omega) (ea.trans eb.symm) hx
    unfold gp at this
    rw [this, Int.mul_comm r1, Int.mul_comm r2]
    omega
  rw [ea] at turn0
  refine ⟨_, (pss_cons (ps_asg (pe_call G_common_turn (hr.mono (by decide)) (by rfl) m_common_turn k_common_turn b_common_turn .nil pass0 (pa_cons (pv 0) (pa_cons (pv 1) pa_nil))) (pg_tup (by rfl) (pgs_cons (pg_name (i := 2) sc_last_above.nd rfl (Or.inl rfl)) (pgs_cons (pg_name (i := 3) sc_last_above.nd rfl (Or.inr rfl)) pgs_nil))))
    (pss_cons (ps_set (i := 4) sc_last_above.nd rfl (Or.inr rfl) (pe_call G_values_to (hr.mono (by decide)) (by rfl) m_values_to k_values_to b_values_to .nil pass0 (pa_cons (pv 0) (pa_cons (pe_op op_add (pv 2) (pv 3)) pa_nil))))
    (pss_cons (ps_set (i := 5) sc_last_above.nd rfl (Or.inr rfl) (pe_call G_values_to (hr.mono (by decide)) (by rfl) m_values_to k_values_to b_values_to .nil pass0 (pa_cons (pv 1) (pa_cons (pe_op op_add (pv 2) (pv 3)) pa_nil))))
    (pss_cons (ps_set (i := 6) sc_last_above.nd rfl (Or.inr rfl) (pe_op op_sub (pe_call G_rise_in (hr.mono (by decide)) (by rfl) m_rise_in k_rise_in b_rise_in .nil pass0 (pa_cons (pv 1) (pa_cons (pv 3) pa_nil))) (pe_call G_rise_in (hr.mono (by decide)) (by rfl) m_rise_in k_rise_in b_rise_in .nil pass0 (pa_cons (pv 0) (pa_cons (pv 3) pa_nil)))))
    (pss_cons (ps_setLc (i := 7) (own := [("x", 9)]) (g := gName 9) (tt := _) rfl sc_last_above.nd rfl rfl (sw_true rfl rfl rfl (by decide +kernel)) (pi_range2 (by rfl) T.n_range (pa_cons (pv 2) (pa_cons (pe_op op_add (pv 2) (pv 3)) pa_nil))) (blkOk_by (own := [("x", 9)]) (N := N_last_above) (sc := defScope s_last_above) (by decide +kernel)) (fun _ _ _ _ _ => pg_name (i := 9) sc_last_above.nd rfl (Or.inl rfl)) (fun _ _ _ _ _ => pts_one (pt_cmpR op_gt (pe_ix (show IxR _ (rIxL K) from ix_list) (pv 4) (pv 9) (fun _ _ => rfl)) (pe_ix (show IxR _ (rIxL K) from ix_list) (pv 5) (pv 9) (fun _ _ => rfl)) (nomark _))) (fun _ _ _ _ _ => (pe_op op_add (pv 9) (pe_op op_mul (pv 3) (pe_op op_fdivW (pe_op op_sub (pe_op op_sub (pe_ix (show IxR _ (rIxL K) from ix_list) (pv 4) (pv 9) (fun _ _ => rfl)) (pe_ix (show IxR _ (rIxL K) from ix_list) (pv 5) (pv 9) (fun _ _ => rfl))) pe_int) (pv 6))))))
    (pss_cons (ps_setLc (i := 8) (own := [("x", 9)]) (g := gName 9) (tt := _) rfl sc_last_above.nd rfl rfl (sw_true rfl rfl rfl (by decide +kernel)) (pi_range1 (by rfl) T.n_range (pa_cons (pv 2) pa_nil)) (blkOk_by (own := [("x", 9)]) (N := N_last_above) (sc := defScope s_last_above) (by decide +kernel)) (fun _ _ _ _ _ => pg_name (i := 9) sc_last_above.nd rfl (Or.inl rfl)) (fun _ _ _ _ _ => pts_one (pt_cmpR op_gt (pe_ix (show IxR _ (rIxL K) from ix_list) (pv 4) (pv 9) (fun _ _ => rfl)) (pe_ix (show IxR _ (rIxL K) from ix_list) (pv 5) (pv 9) (fun _ _ => rfl)) (nomark _))) (fun _ _ _ _ _ => (pv 9)))
    (pss_one (ps_ret (pe_maxDefE (i := -1) rfl (by rfl) T.n_max (pe_un un_neg pe_int) (fun _ _ _ h => ⟨_, rfl, h⟩) (pa_cons (pe_op op_cat (pv 8) (pv 7)) pa_nil)))))))))), ?_⟩
  refine ⟨_, rfl, _, rfl, d1, d2, T1, T2, p1, p2, r1, r2, rfl, R1, R2, l1, l2, c1, c2, fun H1 q1 s1' hq1 => ?_⟩
  refine ⟨_, _, rfl, SqT.of hq1, rfl, _, _, rfl, _, _, rfl, rfl, ?_⟩
  generalize hB : max (T1.length - p1) (T2.length - p2) = B at turn0
  generalize hL : Nat.lcm p1 p2 = t at lcm0 lcm1 turn0 da db
  have Bb : B ≤ 300 := by omega
  refine ⟨_, rfl, _, rfl, _, rfl, _, _, rfl, rfl, d1, T1, p1, r1, B + t, rfl, R1.same s1', o1, b1, by omega, fun H2 L s2' nL hL2 => ?_⟩
  refine ⟨_, rfl, _, rfl, _, rfl, _, _, rfl, rfl, d2, T2, p2, r2, B + t, rfl, (R2.same s1').same s2', o2, b2, by omega, fun H3 M s3' nM hM => ?_⟩
  have hL3 := s3' _ _ hL2
  have s := s1'.trans (s2'.trans s3')
  refine ⟨_, rfl, _, rfl, d2, T2, p2, r2, t, rfl, R2.same s, o2, b2, ?_⟩
  refine ⟨_, rfl, _, rfl, d1, T1, p1, r1, t, rfl, R1.same s, o1, b1, _, _, rfl, rfl, ?_⟩
  rw [da, db]
  show gName 6 (V.int (r2 * (kb : Int) - r1 * (ka : Int))) _ _ _
  have kb1 : kb ≤ 1600 := Nat.le_trans (by rw [← db]; exact Nat.div_le_self _ _) lcm1
  have gtop : r2 * (kb : Int) ≤ 10000000000000 * 1600 := Int.mul_le_mul s2.r1 (by omega) (by omega) (by decide)
  have gbot : 0 ≤ r1 * (ka : Int) := Int.mul_nonneg o1.r0 (by omega)
  generalize hg : r2 * (kb : Int) - r1 * (ka : Int) = g at turn0 loss
  have gb : g ≤ 16000000000000000 := by omega
  have dv : ∀ x : Int, CDivW x g := fun x => wide_div (b := 60) loss (by omega) (by decide) (by decide)
  generalize hD : (fun x => vl T1 p1 r1 x - vl T2 p2 r2 x) = D at k
  have eD : ∀ x, D x = vl T1 p1 r1 x - vl T2 p2 r2 x := fun x => by rw [← hD]
  have turnD : ∀ x, B ≤ x → D (x + t) = D x - g := fun x hx => by rw [eD, eD]; exact turn0 x hx
  -- late
  refine ⟨_, rfl, _, rfl, _, rfl, _, _, rfl, rfl, _, _, rfl, ⟨by omega, by omega, by omega, by omega⟩, fun U nU => ?_⟩
  have sU := same_upd (o := .lst []) nU
  have cnt : ((B : Int) + (t : Int) - (B : Int)).toNat = t := by omega
  rw [cnt]
  refine lc_range (lo := (B : Int)) (n := t) (fun j H' => Same H3 H' ∧ H' U = some (.lst ((lateL D B t g j).map V.int))) ⟨sU, upd_same⟩ ?_ ?_
  · rintro j H' hj ⟨sm, hU⟩
    refine ⟨rfl, ?_⟩
    refine ⟨_, rfl, _, rfl, _, _, _, _, rfl, rfl, SqL.of (sm _ _ hL3), at_of (j := B + j) rfl (vals_get (by omega)), _, rfl, _, rfl, _, _, _, _, rfl, rfl, SqL.of (sm _ _ hM), at_of (j := B + j) rfl (vals_get (by omega)), _, _, rfl, rfl, _, rfl, ite3 (fun e => ?_) (fun e => ?_)⟩
    · have pos : 0 < D (B + j) := by rw [eD]; omega
      refine ⟨_, rfl, _, rfl, _, rfl, _, rfl, _, _, _, _, rfl, rfl, SqL.of (sm _ _ hL3), at_of (j := B + j) rfl (vals_get (by omega)), _, rfl, _, rfl, _, _, _, _, rfl, rfl, SqL.of (sm _ _ hM), at_of (j := B + j) rfl (vals_get (by omega)), _, _, rfl, rfl, _, _, rfl, rfl, _, rfl, _, _, rfl, rfl, dv _, _, _, rfl, rfl, .inl ⟨by omega, by omega⟩, _, _, rfl, rfl, _, hU, ?_, fun b o e' => ?_, ?_⟩
      · rw [List.length_map]
        exact Nat.lt_of_le_of_lt (Nat.le_trans late_len (show j ≤ 1600 by omega)) (by decide)
      · rw [upd_ne (ne_of_none e' nU)]
        exact sm _ _ e'
      · rw [upd_same, late_pos pos, List.map_append, eD]
        rfl
    · refine ⟨sm, ?_⟩
      rw [late_neg (by rw [eD]; omega)]
      exact hU
  rintro H4 ⟨s4, hU⟩
  -- early
  refine ⟨_, rfl, _, rfl, by omega, by omega, fun W nW => ?_⟩
  have sW := same_upd (o := .lst []) nW
  rw [Int.toNat_natCast]
  have hL4 := s4 _ _ hL3
  have hM4 := s4 _ _ hM
  refine lc_range (lo := 0) (n := B) (fun j H' => Same H4 H' ∧ H' W = some (.lst ((earlyL D j).map V.int))) ⟨sW, upd_same⟩ ?_ ?_
  · rintro j H' hj ⟨sm, hW⟩
    refine ⟨rfl, ?_⟩
    refine ⟨_, rfl, _, rfl, _, _, _, _, rfl, rfl, SqL.of (sm _ _ hL4), at_of (j := j) (Int.zero_add _) (vals_get (by omega)), _, rfl, _, rfl, _, _, _, _, rfl, rfl, SqL.of (sm _ _ hM4), at_of (j := j) (Int.zero_add _) (vals_get (by omega)), _, _, rfl, rfl, _, rfl, ite3 (fun e => ?_) (fun e => ?_)⟩
    · have pos : 0 < D j := by rw [eD]; omega
      refine ⟨_, rfl, _, hW, ?_, fun b o e' => ?_, ?_⟩
      · rw [List.length_map]
        exact Nat.lt_of_le_of_lt (Nat.le_trans early_len (show j ≤ 1600 by omega)) (by decide)
      · rw [upd_ne (ne_of_none e' nW)]
        exact sm _ _ e'
      · rw [upd_same, early_pos pos, List.map_append, Int.zero_add]
        rfl
    · refine ⟨sm, ?_⟩
      rw [early_neg (by rw [eD]; omega)]
      exact hW
  rintro H5 ⟨s5, hW⟩
  have hU5 := s5 _ _ hU
  refine ⟨_, rfl, _, rfl, _, _, _, _, rfl, rfl, hW, hU5, ?_, fun Z nZ => ?_⟩
  · rw [List.length_map, List.length_map]
    exact Nat.le_trans (show (earlyL D B).length + (lateL D B t g t).length ≤ 6000 by have := early_len (d := D) (j := B); have := late_len (d := D) (B := B) (t := t) (g := g) (j := t); omega) (by decide)
  have sZ := same_upd (o := .lst ((earlyL D B).map V.int ++ (lateL D B t g t).map V.int)) nZ
  obtain ⟨m0, m1⟩ := last_is lcm0 loss turnD rfl
  refine maxDef_set (ns := earlyL D B ++ lateL D B t g t) (by rw [upd_same, List.map_append]) (fun e => k _ _ (s.trans (s4.trans (s5.trans sZ))) (m0 e)) (fun m hm hle => k _ _ (s.trans (s4.trans (s5.trans sZ))) (m1 m hm hle))
end
end Sm

set_option Elab.async false
set_option linter.all false
set_option maxRecDepth 100000
set_option maxHeartbeats 16000000
namespace Sm
open PySem PySem.Spec PyProof.Rows L2
open C8 (pss_cut tCut)
/-- the shortest rule of the greater values, or TooLong with its length -/
def BestOf (c : Addr) (T1 : List Int) (p1 : Nat) (r1 : Int) (T2 : List Int) (p2 : Nat) (r2 : Int) (H : Hp) (Q : VK) (E : XK) : Prop :=
  (∀ H' d' T' p' r', Same H H' → RuleAt H' d' T' p' r' → RB T' p' r' → Short T' p' r' → (∀ x, vl T' p' r' x = max (vl T1 p1 r1 x) (vl T2 p2 r2 x)) → T'.length ≤ 5000 → Q (.ref d') H') ∧
  ∀ n : Nat, 5000 < n → (∀ T' p' r', Short T' p' r' → (∀ x, vl T' p' r' x = max (vl T1 p1 r1 x) (vl T2 p2 r2 x)) → T'.length = n) → ∀ H', Same H H' → Lng c (n : Int) H' E
def sp_over (c : Addr) : Sp := fun vs H Q E => ∃ (d1 d2 : Addr) (T1 T2 : List Int) (p1 p2 : Nat) (r1 r2 : Int), vs = [.ref d1, .ref d2] ∧ RuleAt H d1 T1 p1 r1 ∧ RuleAt H d2 T2 p2 r2 ∧ Short T1 p1 r1 ∧ RuleOk T2 p2 r2 ∧ RS 10000000000000 T1 p1 r1 ∧ RS 10000000000000 T2 p2 r2 ∧ r2 * (p1 : Int) < r1 * (p2 : Int) ∧ BestOf c T1 p1 r1 T2 p2 r2 H Q E
theorem over_tab {T1 T2 : List Int} {p1 p2 B : Nat} {r1 r2 : Int} (o1 : RuleOk T1 p1 r1) (o2 : RuleOk T2 p2 r2) (s1 : RS 10000000000000 T1 p1 r1) (s2 : RS 10000000000000 T2 p2 r2) (hB : T1.length - p1 ≤ B) (hb : B + p1 ≤ 5000) (hL : ∀ x, B ≤ x → vl T2 p2 r2 x ≤ vl T1 p1 r1 x) :
    RuleOk (gtab T1 p1 r1 T2 p2 r2 (B + p1)) p1 r1 ∧ RB (gtab T1 p1 r1 T2 p2 r2 (B + p1)) p1 r1 ∧ ∀ x, vl (gtab T1 p1 r1 T2 p2 r2 (B + p1)) p1 r1 x = max (vl T1 p1 r1 x) (vl T2 p2 r2 x) := by
  have turn := over_turn o1 hB hL
  have r1' := s1.r1
  refine ⟨tab_ok (f := fun x => max (vl T1 p1 r1 x) (vl T2 p2 r2 x)) o1.p0 o1.r0 turn (fun x => ?_) (fun x => ?_), ⟨?_, by omega, fun i hi => ?_⟩, tab_vl o1.p0 turn⟩
  · have := o1.pos x
    omega
  · have := o1.up x
    have := o2.up x
    omega
  · unfold gtab
    rw [List.length_map, List.length_range]
    omega
  · unfold gtab at hi ⊢
    rw [tab_len] at hi
    rw [tab_getD hi]
    have h1 := RS.vl o1 s1 (by decide) i
    have h2 := RS.vl o2 s2 (by decide) i
    have h3 : (10000000000000 : Int) * ((i : Int) + 1) ≤ 10000000000000 * 5001 := Int.mul_le_mul_of_nonneg_left (by omega) (by decide)
    omega
section
variable {P : Program} {w : World} {K : PySem.W.Frag} {mg : Str → Option Value} {base : Heap} {cTooLong : Addr}
abbrev s_overtaking_rule : Stmt := topS 20
abbrev N_overtaking_rule : List Str := ["steep", "flat", "count"]
theorem sc_overtaking_rule : FnScope N_overtaking_rule ["steep", "flat"] (defScope s_overtaking_rule) := ⟨rfl, rfl, rfl, by decide +kernel, rfl, by decide +kernel, by decide +kernel⟩
theorem ok_overtaking_rule (T : Txt mg) (D : Df K mg "overtaking_rule" s_overtaking_rule ["steep", "flat"]) (C_greater_values : CalX P w K mg base "greater_values" ["one", "other", "count", "turn"] 5 (sp_greater cTooLong)) (C_check_told : CalX P w K mg base "check_told" ["number"] 3 (sp_check_told cTooLong)) (C_last_above : Cal P w K mg base "last_above" ["flat", "steep"] 3 (sp_last_above K)) (C_begin_of : Cal P w K mg base "begin_of" ["rule"] 1 (sp_begin_of K)) : CalX P w K mg base "overtaking_rule" ["steep", "flat"] 6 (sp_over cTooLong) := by
  obtain ⟨f_greater_values, fd_greater_values, G_greater_values, m_greater_values, k_greater_values, b_greater_values⟩ := C_greater_values
  obtain ⟨f_check_told, fd_check_told, G_check_told, m_check_told, k_check_told, b_check_told⟩ := C_check_told
  obtain ⟨f_last_above, fd_last_above, G_last_above, m_last_above, k_last_above, b_last_above⟩ := C_last_above
  obtain ⟨f_begin_of, fd_begin_of, G_begin_of, m_begin_of, k_begin_of, b_begin_of⟩ := C_begin_of
  obtain ⟨f, fd, F, m, b⟩ := D
  refine ⟨f, fd, F.okX sc_overtaking_rule (fun vs H Q E h => ?_) (fun cdv A outer s H vs Q E hr h => ?_), m, F.kp, b⟩
  · obtain ⟨d1, d2, T1, T2, p1, p2, r1, r2, rfl, _⟩ := h
    rfl
  obtain ⟨d1, d2, T1, T2, p1, p2, r1, r2, rfl, R1, R2, sh1, o2, s1, s2, lt, kq, kl⟩ := h
  have o1 := sh1.ok
  have pp := o1.p0
  have l1 := o1.p1
  have bl1 := s1.len
  refine ⟨_, (pss_cons (ps_set (i := 2) sc_overtaking_rule.nd rfl (Or.inl rfl) (pe_op op_add (pe_callB (call_max2 rfl) (by rfl) T.n_max (by decide +kernel) (pa_cons (pe_call G_begin_of (hr.mono (by decide)) (by rfl) m_begin_of k_begin_of b_begin_of .nil pass0 (pa_cons (pv 0) pa_nil)) (pa_cons (pe_op op_add (pe_call G_last_above (hr.mono (by decide)) (by rfl) m_last_above k_last_above b_last_above .nil pass0 (pa_cons (pv 1) (pa_cons (pv 0) pa_nil))) pe_int) pa_nil))) (pe_ix ix_tup (pv 0) pe_int (fun _ _ => rfl))))
    (pss_cons (ps_if (pt_cmpR op_gt (pv 2) (pe_callB call_len_seq (by rfl) T.n_len (by decide +kernel) (pa_cons (pe_ix ix_tup (pv 0) pe_int (fun _ _ => rfl)) pa_nil)) (nomark _)) (pss_one (ps_expr (pe_callS G_check_told (hr.mono (by decide)) rfl m_check_told k_check_told b_check_told (fun σ => passAt (takes_of rfl rfl rfl rfl) σ) (pa_cons (pv 2) pa_nil)))) pss_nil)
    (pss_one (ps_ret (pe_callS G_greater_values (hr.mono (by decide)) rfl m_greater_values k_greater_values b_greater_values (fun σ => passAt (takes_of rfl rfl rfl rfl) σ) (pa_cons (pv 0) (pa_cons (pv 1) (pa_cons (pv 2) (pa_cons (pe_ix ix_tup (pv 0) pe_int (fun _ _ => rfl)) pa_nil))))))))), ?_⟩
  refine ⟨_, rfl, d1, T1, p1, r1, rfl, R1, l1, _, rfl, _, rfl, d2, d1, T2, T1, p2, p1, r2, r1, rfl, R2, R1, o2, o1, s2, s1, lt, fun H1 L sA isl => ?_⟩
  have R1a := R1.same sA
  have R2a := R2.same sA
  obtain ⟨t1, hd1, ht1⟩ := id R1a
  have L0 : -1 ≤ L := by
    rcases isl.1 with e | ⟨n, e, _⟩ <;> omega
  obtain ⟨B, hBn⟩ : ∃ B : Nat, (B : Int) = if L + 1 > ((T1.length - p1 : Nat) : Int) then L + 1 else ((T1.length - p1 : Nat) : Int) := by
    refine ⟨(if L + 1 > ((T1.length - p1 : Nat) : Int) then L + 1 else ((T1.length - p1 : Nat) : Int)).toNat, Int.toNat_of_nonneg ?_⟩
    split <;> omega
  have hB1 : T1.length - p1 ≤ B := by
    split at hBn <;> omega
  have hB2 : L < (B : Int) := by
    split at hBn <;> omega
  refine ⟨_, _, rfl, rfl, _, _, rfl, _, rfl, _, _, _, _, rfl, rfl, SqT.of hd1, atI_nat (j := 1) rfl, _, _, rfl, rfl, ?_⟩
  have z : ∀ C : Int → Prop, C ((B + p1 : Nat) : Int) → C ((if L + 1 > ((T1.length - p1 : Nat) : Int) then L + 1 else ((T1.length - p1 : Nat) : Int)) + (p1 : Int)) := fun C h => by
    rw [← hBn]
    exact h
  refine z (fun y => gName 2 (.int y) _ _ _) ?_
  clear z
  have hL : ∀ x, B ≤ x → vl T2 p2 r2 x ≤ vl T1 p1 r1 x := fun x hx => by
    have q := isl.2 x
    rcases Int.lt_or_le 0 (vl T2 p2 r2 x - vl T1 p1 r1 x) with g | g
    · have := q g
      omega
    · omega
  have rb1 := s1.rb (by decide)
  have rb2 := s2.rb (by decide)
  have args : [V.ref d1, V.ref d2, V.int ((B + p1 : Nat) : Int), V.int (p1 : Int)] = [V.ref d1, V.ref d2, V.int ((B + p1 : Nat) : Int), V.int ((1 * p1 : Nat) : Int)] := by rw [Nat.one_mul]
  have fin : B + p1 ≤ 5000 → sp_greater cTooLong [V.ref d1, V.ref d2, V.int ((B + p1 : Nat) : Int), V.int (p1 : Int)] H1 Q E := fun q => by
    obtain ⟨og, bg, ov⟩ := over_tab o1 o2 s1 s2 hB1 q hL
    have gl : (gtab T1 p1 r1 T2 p2 r2 (B + p1)).length = B + p1 := by
      unfold gtab
      rw [List.length_map, List.length_range]
    refine ⟨d1, d2, T1, T2, p1, p2, B + p1, 1, r1, r2, args, R1a, R2a, o1, o2, rb1, rb2, q, ?_, ?_, ?_⟩
    · rw [Nat.one_mul, show r1 * ((1 : Nat) : Int) = r1 from Int.mul_one r1]
      exact og
    · rw [Nat.one_mul, show r1 * ((1 : Nat) : Int) = r1 from Int.mul_one r1]
      exact bg
    · rw [Nat.one_mul, show r1 * ((1 : Nat) : Int) = r1 from Int.mul_one r1]
      intro H' d' T' p' r' s' R c sh hv
      have cl := c.len
      exact ⟨fun q2 => kq H' d' T' p' r' (sA.trans s') R (c.rb bg) sh (fun x => (hv x).trans (ov x)) q2, fun q2 => by omega⟩
  refine ⟨_, rfl, _, rfl, _, _, _, _, rfl, rfl, SqT.of hd1, atI_nat (j := 0) rfl, _, _, rfl, .inr (SqT.of ht1), _, _, rfl, rfl, _, rfl, ite3 (fun e => ?_) (fun e => ?_)⟩
  · rw [len_int] at e
    refine ⟨_, rfl, ((B + p1 : Nat) : Int), rfl, fun q => ?_, fun q => ?_⟩
    · exact ⟨_, rfl, _, rfl, _, rfl, _, rfl, _, _, _, _, rfl, rfl, SqT.of hd1, atI_nat (j := 1) rfl, fin (by omega)⟩
    · have e : T1.length < B + p1 := by omega
      have eB : (B : Int) = L + 1 := by
        split at hBn <;> omega
      obtain ⟨n, rfl, above⟩ : ∃ n : Nat, L = (n : Int) ∧ 0 < vl T2 p2 r2 n - vl T1 p1 r1 n := by
        rcases isl.1 with e1 | e1
        · omega
        · exact e1
      refine kl (B + p1) (by omega) (fun T' p' r' s hv => ?_) H1 sA
      obtain ⟨_, _, len⟩ := over_len s sh1 hv (L := n) (by omega) (by omega) fun x hx => hL x (by omega)
      omega
  · rw [len_int] at e
    exact ⟨_, rfl, _, rfl, _, rfl, _, rfl, _, _, _, _, rfl, rfl, SqT.of hd1, atI_nat (j := 1) rfl, fin (by omega)⟩
end
end Sm

set_option Elab.async false
set_option linter.all false
set_option maxRecDepth 100000
set_option maxHeartbeats 16000000
namespace Sm
open PySem PySem.Spec PyProof.Rows L2
open C8 (pss_cut tCut)
def sp_best (c : Addr) : Sp := fun vs H Q E => ∃ (d1 d2 : Addr) (T1 T2 : List Int) (p1 p2 : Nat) (r1 r2 : Int), vs = [.ref d1, .ref d2] ∧ RuleAt H d1 T1 p1 r1 ∧ RuleAt H d2 T2 p2 r2 ∧ Short T1 p1 r1 ∧ Short T2 p2 r2 ∧ RS 10000000000000 T1 p1 r1 ∧ RS 10000000000000 T2 p2 r2 ∧ BestOf c T1 p1 r1 T2 p2 r2 H Q E
theorem BestOf.swap {c : Addr} {T1 T2 : List Int} {p1 p2 : Nat} {r1 r2 : Int} {H : Hp} {Q : VK} {E : XK} (b : BestOf c T1 p1 r1 T2 p2 r2 H Q E) : BestOf c T2 p2 r2 T1 p1 r1 H Q E :=
  ⟨fun H' d' T' p' r' s R rb sh hv l => b.1 H' d' T' p' r' s R rb sh (fun x => (hv x).trans (Int.max_comm _ _)) l, fun n hn h H' s => b.2 n hn (fun T' p' r' sh hv => h T' p' r' sh fun x => (hv x).trans (Int.max_comm _ _)) H' s⟩
theorem alike_tab {T1 T2 : List Int} {p1 p2 B t ka kb : Nat} {r1 r2 : Int} (o1 : RuleOk T1 p1 r1) (o2 : RuleOk T2 p2 r2) (s1 : RS 10000000000000 T1 p1 r1) (s2 : RS 10000000000000 T2 p2 r2) (hB1 : T1.length - p1 ≤ B) (hB2 : T2.length - p2 ≤ B) (hB : B ≤ 300) (t0 : 0 < t) (ht : t ≤ 1600)
    (ea : ka * p1 = t) (eb : kb * p2 = t) (hk : ka ≤ 1600) (e : r1 * (ka : Int) = r2 * (kb : Int)) :
    RuleOk (gtab T1 p1 r1 T2 p2 r2 (B + t)) t (r1 * (ka : Int)) ∧ RB (gtab T1 p1 r1 T2 p2 r2 (B + t)) t (r1 * (ka : Int)) ∧ ∀ x, vl (gtab T1 p1 r1 T2 p2 r2 (B + t)) t (r1 * (ka : Int)) x = max (vl T1 p1 r1 x) (vl T2 p2 r2 x) := by
  have turn : ∀ x, B ≤ x → max (vl T1 p1 r1 (x + t)) (vl T2 p2 r2 (x + t)) = max (vl T1 p1 r1 x) (vl T2 p2 r2 x) + r1 * (ka : Int) := by
    intro x hx
    have e1 := vl_addk o1.p0 o1.p1 (r := r1) (x := x) (by omega) ka
    have e2 := vl_addk o2.p0 o2.p1 (r := r2) (x := x) (by omega) kb
    rw [ea, Int.mul_comm] at e1
    rw [eb, Int.mul_comm, ← e] at e2
    omega
  have u1 : r1 * (ka : Int) ≤ 10000000000000 * 1600 := Int.mul_le_mul s1.r1 (by omega) (by omega) (by decide)
  refine ⟨tab_ok (f := fun x => max (vl T1 p1 r1 x) (vl T2 p2 r2 x)) t0 (Int.mul_nonneg o1.r0 (by omega)) turn (fun x => ?_) (fun x => ?_), ⟨?_, by omega, fun i hi => ?_⟩, tab_vl t0 turn⟩
  · have := o1.pos x
    omega
  · have := o1.up x
    have := o2.up x
    omega
  · unfold gtab
    rw [List.length_map, List.length_range]
    omega
  · unfold gtab at hi ⊢
    rw [tab_len] at hi
    rw [tab_getD hi]
    have h1 := RS.vl o1 s1 (by decide) i
    have h2 := RS.vl o2 s2 (by decide) i
    have h3 : (10000000000000 : Int) * ((i : Int) + 1) ≤ 10000000000000 * 5001 := Int.mul_le_mul_of_nonneg_left (by omega) (by decide)
    omega
section
variable {P : Program} {w : World} {K : PySem.W.Frag} {mg : Str → Option Value} {base : Heap} {cTooLong : Addr}
abbrev s_best_rule : Stmt := topS 19
abbrev N_best_rule : List Str := ["one", "other", "ahead", "begin", "turn"]
theorem sc_best_rule : FnScope N_best_rule ["one", "other"] (defScope s_best_rule) := ⟨rfl, rfl, rfl, by decide +kernel, rfl, by decide +kernel, by decide +kernel⟩
theorem ok_best_rule (T : Txt mg) (D : Df K mg "best_rule" s_best_rule ["one", "other"]) (C_overtaking_rule : CalX P w K mg base "overtaking_rule" ["steep", "flat"] 6 (sp_over cTooLong)) (C_greater_values : CalX P w K mg base "greater_values" ["one", "other", "count", "turn"] 5 (sp_greater cTooLong)) (C_common_turn : Cal P w K mg base "common_turn" ["one", "other"] 2 (sp_common_turn K)) : CalX P w K mg base "best_rule" ["one", "other"] 7 (sp_best cTooLong) := by
  obtain ⟨f_greater_values, fd_greater_values, G_greater_values, m_greater_values, k_greater_values, b_greater_values⟩ := C_greater_values
  obtain ⟨f_overtaking_rule, fd_overtaking_rule, G_overtaking_rule, m_overtaking_rule, k_overtaking_rule, b_overtaking_rule⟩ := C_overtaking_rule
  obtain ⟨f_common_turn, fd_common_turn, G_common_turn, m_common_turn, k_common_turn, b_common_turn⟩ := C_common_turn
  obtain ⟨f, fd, F, m, b⟩ := D
  refine ⟨f, fd, F.okX sc_best_rule (fun vs H Q E h => ?_) (fun cdv A outer s H vs Q E hr h => ?_), m, F.kp, b⟩
  · obtain ⟨d1, d2, T1, T2, p1, p2, r1, r2, rfl, _⟩ := h
    rfl
  obtain ⟨d1, d2, T1, T2, p1, p2, r1, r2, rfl, R1, R2, sh1, sh2, s1, s2, kb⟩ := h
  obtain ⟨t1, hd1, ht1⟩ := id R1
  obtain ⟨t2, hd2, ht2⟩ := id R2
  have o1 := sh1.ok
  have o2 := sh2.ok
  have z1 := o1.p0
  have z2 := o2.p0
  have l1 := o1.p1
  have l2 := o2.p1
  have bl1 := s1.len
  have bl2 := s2.len
  have c1 := s1.turn
  have c2 := s2.turn
  refine ⟨_, (pss_cons (ps_set (i := 2) sc_best_rule.nd rfl (Or.inl rfl) (pe_op op_sub (pe_op op_mul (pe_ix ix_tup (pv 0) pe_int (fun _ _ => rfl)) (pe_ix ix_tup (pv 1) pe_int (fun _ _ => rfl))) (pe_op op_mul (pe_ix ix_tup (pv 1) pe_int (fun _ _ => rfl)) (pe_ix ix_tup (pv 0) pe_int (fun _ _ => rfl)))))
    (pss_cons (ps_if (pt_cmpR op_eq (pv 2) pe_int (nomark _)) (pss_cons (ps_asg (pe_call G_common_turn (hr.mono (by decide)) (by rfl) m_common_turn k_common_turn b_common_turn .nil pass0 (pa_cons (pv 0) (pa_cons (pv 1) pa_nil))) (pg_tup (by rfl) (pgs_cons (pg_name (i := 3) sc_best_rule.nd rfl (Or.inl rfl)) (pgs_cons (pg_name (i := 4) sc_best_rule.nd rfl (Or.inl rfl)) pgs_nil))))
    (pss_one (ps_ret (pe_callS G_greater_values (hr.mono (by decide)) rfl m_greater_values k_greater_values b_greater_values (fun σ => passAt (takes_of rfl rfl rfl rfl) σ) (pa_cons (pv 0) (pa_cons (pv 1) (pa_cons (pe_op op_add (pv 3) (pv 4)) (pa_cons (pv 4) pa_nil)))))))) pss_nil)
    (pss_cons (ps_if (pt_cmpR op_gt (pv 2) pe_int (nomark _)) (pss_one (ps_ret (pe_callS G_overtaking_rule (hr.mono (by decide)) rfl m_overtaking_rule k_overtaking_rule b_overtaking_rule (fun σ => passAt (takes_of rfl rfl rfl rfl) σ) (pa_cons (pv 0) (pa_cons (pv 1) pa_nil))))) pss_nil)
    (pss_one (ps_ret (pe_callS G_overtaking_rule (hr.mono (by decide)) rfl m_overtaking_rule k_overtaking_rule b_overtaking_rule (fun σ => passAt (takes_of rfl rfl rfl rfl) σ) (pa_cons (pv 1) (pa_cons (pv 0) pa_nil)))))))), ?_⟩
  refine ⟨_, rfl, _, _, _, _, rfl, rfl, SqT.of hd1, atI_nat (j := 2) rfl, _, rfl, _, _, _, _, rfl, rfl, SqT.of hd2, atI_nat (j := 1) rfl, _, _, rfl, rfl, .inr ⟨by omega, by omega⟩, ?_⟩
  refine ⟨_, rfl, _, _, _, _, rfl, rfl, SqT.of hd2, atI_nat (j := 2) rfl, _, rfl, _, _, _, _, rfl, rfl, SqT.of hd1, atI_nat (j := 1) rfl, _, _, rfl, rfl, .inr ⟨by omega, by omega⟩, _, _, rfl, rfl, ?_⟩
  refine ⟨_, rfl, rfl, _, rfl, ite3 (fun e => ?_) (fun e => ?_)⟩
  · have e : r1 * (p2 : Int) - r2 * (p1 : Int) = 0 := V.int.inj e
    have rb1 := s1.rb (by decide)
    have rb2 := s2.rb (by decide)
    obtain ⟨ka, hka⟩ := Nat.dvd_lcm_left p1 p2
    obtain ⟨kc, hkc⟩ := Nat.dvd_lcm_right p1 p2
    have lcm0 : 0 < Nat.lcm p1 p2 := Nat.lcm_pos z1 z2
    have lcm1 : Nat.lcm p1 p2 ≤ 1600 := by
      have h1 : Nat.lcm p1 p2 ≤ p1 * p2 := PySem.W.mc_lcm_le p1 p2
      have h2 : p1 * p2 ≤ 40 * 40 := Nat.mul_le_mul c1 c2
      omega
    have da : Nat.lcm p1 p2 / p1 = ka := by rw [hka]; exact Nat.mul_div_cancel_left ka z1
    have ea : ka * p1 = Nat.lcm p1 p2 := by rw [Nat.mul_comm]; exact hka.symm
    have ec : kc * p2 = Nat.lcm p1 p2 := by rw [Nat.mul_comm]; exact hkc.symm
    have ka1 : ka ≤ 1600 := Nat.le_trans (by rw [← da]; exact Nat.div_le_self _ _) lcm1
    have same : r1 * (ka : Int) = r2 * (kc : Int) := by
      have ce : (ka : Int) * (p1 : Int) = (kc : Int) * (p2 : Int) := by
        rw [← Int.natCast_mul, ← Int.natCast_mul, ea, ec]
      refine Int.eq_of_mul_eq_mul_right (show (p2 : Int) ≠ 0 by omega) ?_
      rw [Int.mul_assoc, Int.mul_comm (ka : Int), ← Int.mul_assoc, show r1 * (p2 : Int) = r2 * (p1 : Int) by omega, Int.mul_assoc, Int.mul_comm (p1 : Int), ce, ← Int.mul_assoc]
    refine ⟨_, rfl, _, rfl, d1, d2, T1, T2, p1, p2, r1, r2, rfl, R1, R2, l1, l2, c1, c2, fun H1 q1 s' hq1 => ?_⟩
    refine ⟨_, _, rfl, SqT.of hq1, rfl, _, _, rfl, _, _, rfl, rfl, ?_⟩
    obtain ⟨og, bg, ov⟩ := alike_tab o1 o2 s1 s2 (B := max (T1.length - p1) (T2.length - p2)) (t := ka * p1) (by omega) (by omega) (by omega) (by omega) (by omega) rfl (ec.trans ea.symm) ka1 same
    have gl : (gtab T1 p1 r1 T2 p2 r2 (max (T1.length - p1) (T2.length - p2) + ka * p1)).length = max (T1.length - p1) (T2.length - p2) + ka * p1 := by
      unfold gtab
      rw [List.length_map, List.length_range]
    refine ⟨_, rfl, _, rfl, _, rfl, _, rfl, _, _, rfl, rfl, _, rfl, d1, d2, T1, T2, p1, p2, max (T1.length - p1) (T2.length - p2) + ka * p1, ka, r1, r2, ?_, R1.same s', R2.same s', o1, o2, rb1, rb2, by omega, og, bg, fun H' d' T' p' r' s2' R c sh hv => ?_⟩
    · rw [ea]
      rfl
    · have cl := c.len
      exact ⟨fun q => kb.1 H' d' T' p' r' (s'.trans s2') R (c.rb bg) sh (fun x => (hv x).trans (ov x)) q, fun q => by omega⟩
  · refine ⟨_, rfl, _, _, rfl, rfl, _, rfl, ite3 (fun e2 => ?_) (fun e2 => ?_)⟩
    · exact ⟨_, rfl, _, rfl, d1, d2, T1, T2, p1, p2, r1, r2, rfl, R1, R2, sh1, o2, s1, s2, by omega, kb⟩
    · have e : r1 * (p2 : Int) - r2 * (p1 : Int) ≠ 0 := fun q => e (congrArg V.int q)
      exact ⟨_, rfl, _, rfl, d2, d1, T2, T1, p2, p1, r2, r1, rfl, R2, R1, sh2, o1, s2, s1, by omega, kb.swap⟩
end
end Sm

set_option maxHeartbeats 4000000
namespace Sm
/-! the second rule's value at the first one's -/
section
variable {T1 T2 : List Int} {p1 p2 : Nat} {r1 r2 : Int}
def thn (T1 : List Int) (p1 : Nat) (r1 : Int) (T2 : List Int) (p2 : Nat) (r2 : Int) (x : Nat) : Int := vl T2 p2 r2 (vl T1 p1 r1 x).toNat
theorem thn_pos (o2 : RuleOk T2 p2 r2) (x : Nat) : 0 ≤ thn T1 p1 r1 T2 p2 r2 x := o2.pos _
theorem thn_up (o1 : RuleOk T1 p1 r1) (o2 : RuleOk T2 p2 r2) (x : Nat) : thn T1 p1 r1 T2 p2 r2 x ≤ thn T1 p1 r1 T2 p2 r2 (x + 1) := by
  have := o1.up x
  exact o2.le (by omega)
theorem thn_turn {B a b : Nat} (o1 : RuleOk T1 p1 r1) (o2 : RuleOk T2 p2 r2) (hB : T1.length - p1 ≤ B) (hab : (a : Int) * r1 = (b : Int) * (p2 : Int)) (hb : b = 0 ∨ ((T2.length - p2 : Nat) : Int) ≤ vl T1 p1 r1 B) :
    ∀ x, B ≤ x → thn T1 p1 r1 T2 p2 r2 (x + a * p1) = thn T1 p1 r1 T2 p2 r2 x + (b : Int) * r2 := by
  intro x hx
  unfold thn
  have e1 := vl_addk o1.p0 o1.p1 (r := r1) (x := x) (by omega) a
  rw [e1, hab]
  have n1 := o1.pos x
  have up := o1.le hx
  rcases hb with rfl | hb
  · simp
  · have e : (vl T1 p1 r1 x + (b : Int) * (p2 : Int)).toNat = (vl T1 p1 r1 x).toNat + b * p2 := by
      rw [← Int.natCast_mul]
      omega
    rw [e]
    exact vl_addk o2.p0 o2.p1 (r := r2) (by omega) b
/-- the turns that then_rule takes -/
theorem thn_times (p0 : 0 < p2) (r0 : 0 ≤ r1) : 0 < p2 / Nat.gcd p2 r1.natAbs ∧ p2 / Nat.gcd p2 r1.natAbs ≤ p2 ∧ ((p2 / Nat.gcd p2 r1.natAbs : Nat) : Int) * r1 = ((r1.natAbs * (p2 / Nat.gcd p2 r1.natAbs) / p2 : Nat) : Int) * (p2 : Int) := by
  have g0 := Nat.gcd_pos_of_pos_left r1.natAbs p0
  obtain ⟨c, hc⟩ := Nat.gcd_dvd_left p2 r1.natAbs
  obtain ⟨d, hd⟩ := Nat.gcd_dvd_right p2 r1.natAbs
  have e : p2 / Nat.gcd p2 r1.natAbs = c := by
    rw [Nat.div_eq_of_eq_mul_right g0 hc]
  rw [e]
  have c0 : 0 < c := by
    rcases Nat.eq_zero_or_pos c with z | z
    · rw [z, Nat.mul_zero] at hc
      omega
    · exact z
  refine ⟨c0, ?_, ?_⟩
  · rw [← e]
    exact Nat.div_le_self ..
  · generalize Nat.gcd p2 r1.natAbs = g at *
    have m : r1.natAbs * c / p2 = d := by
      rw [hd, hc, show g * d * c = g * c * d by rw [Nat.mul_assoc, Nat.mul_comm d c, Nat.mul_assoc]]
      exact Nat.mul_div_cancel_left _ (Nat.mul_pos g0 c0)
    rw [m]
    have er : r1 = ((g * d : Nat) : Int) := by omega
    rw [er, hc, ← Int.natCast_mul, ← Int.natCast_mul]
    congr 1
    rw [Nat.mul_comm d, Nat.mul_assoc, Nat.mul_left_comm]
end
/-- one step, at the end -/
def stepT (N : Nat) : List Int := List.replicate N 0 ++ [9]
theorem step_len (N : Nat) : (stepT N).length = N + 1 := by
  unfold stepT
  rw [List.length_append, List.length_replicate]
  rfl
theorem step_at {N i : Nat} : (stepT N).getD i 0 = if i = N then 9 else 0 := by
  unfold stepT
  rw [List.getD_eq_getElem?_getD, List.getElem?_append, List.length_replicate]
  split
  · rw [if_neg (by omega), List.getElem?_replicate]
    split <;> rfl
  · split
    · rename_i h
      rw [h, Nat.sub_self]
      rfl
    · rw [List.getElem?_eq_none (by rw [List.length_singleton]; omega)]
      rfl
theorem step_ok {N : Nat} {r : Int} (h : 0 ≤ r) : RuleOk (stepT N) 1 r := by
  have l := step_len N
  refine ⟨by decide, by omega, h, fun i hi => ?_, fun i hi => ?_, ?_⟩
  · rw [step_at]
    split <;> omega
  · rw [step_at, step_at]
    split <;> split <;> omega
  · rw [l, Nat.add_sub_cancel]
    omega
theorem step_vl {N : Nat} (x : Nat) : vl (stepT N) 1 0 x = if x < N then 0 else 9 := by
  have l := step_len N
  unfold vl
  rw [l]
  split
  · rw [step_at]
    split <;> split <;> omega
  · rw [if_neg (by omega), Nat.div_one, Nat.mul_one, show x - (x - (N + 1) + 1) = N by omega, step_at, if_pos rfl, Int.mul_zero, Int.add_zero]
theorem step_short {N : Nat} (h : 0 < N) : Short (stepT N) 1 0 := by
  have l := step_len N
  refine ⟨step_ok (by decide), fun s c h1 h2 => by omega, .inr ?_⟩
  rw [step_vl, step_at, l, if_neg (by omega), if_neg (by omega)]
  decide
end Sm

set_option Elab.async false
set_option linter.all false
set_option maxRecDepth 100000
set_option maxHeartbeats 16000000
namespace Sm
open PySem PySem.Spec PyProof.Rows L2
open C8 (pss_cut tCut)
def sp_first_place (_ : PySem.W.Frag) : Sp := fun vs H Q _ => ∃ (t : Addr) (T : List Int) (lo : Nat) (y : Int), vs = [.ref t, .int (lo : Int), .int y] ∧ H t = some (.tup (T.map V.int)) ∧ lo < T.length ∧ T.length ≤ 30000 ∧
  (∀ i j, i ≤ j → j < T.length → T.getD i 0 ≤ T.getD j 0) ∧ y ≤ T.getD (T.length - 1) 0 ∧ ∀ i : Nat, lo ≤ i → i < T.length → y ≤ T.getD i 0 → (∀ j, lo ≤ j → j < i → T.getD j 0 < y) → Q (.int (i : Int)) H
def optV : Option Nat → V
  | none => .non
  | some x => .int (x : Int)
def sp_least_for (_ : PySem.W.Frag) : Sp := fun vs H Q _ => ∃ (d : Addr) (T : List Int) (p : Nat) (r y : Int), vs = [.ref d, .int y] ∧ RuleAt H d T p r ∧ RuleOk T p r ∧ RS 10000000000000 T p r ∧ ∀ o, IsLf T p r y o → Q (optV o) H
theorem thn_le {T1 T2 : List Int} {p1 p2 : Nat} {r1 r2 : Int} (o1 : RuleOk T1 p1 r1) (o2 : RuleOk T2 p2 r2) (s1 : RS 100000 T1 p1 r1) (s2 : RS 100000 T2 p2 r2) {x : Nat} (hx : x ≤ 30000) : vl T1 p1 r1 x ≤ 1000000000000000000 ∧ thn T1 p1 r1 T2 p2 r2 x ≤ 100000000000000000 := by
  have a := RS.vl o1 s1 (by decide) x
  have b := RS.vl o2 s2 (by decide) (vl T1 p1 r1 x).toNat
  have n := o1.pos x
  have c : (100000 : Int) * ((x : Int) + 1) ≤ 100000 * 30001 := Int.mul_le_mul_of_nonneg_left (by omega) (by decide)
  refine ⟨by omega, ?_⟩
  unfold thn
  generalize vl T2 p2 r2 (vl T1 p1 r1 x).toNat = v at *
  omega
/-- a table of such values -/
theorem thn_tab {T1 T2 : List Int} {p1 p2 B t : Nat} {r1 r2 R : Int} (o1 : RuleOk T1 p1 r1) (o2 : RuleOk T2 p2 r2) (s1 : RS 100000 T1 p1 r1) (s2 : RS 100000 T2 p2 r2) (t0 : 0 < t) (R0 : 0 ≤ R) (R1 : R ≤ 100000000000000000) (hb : B + t ≤ 30000)
    (turn : ∀ x, B ≤ x → thn T1 p1 r1 T2 p2 r2 (x + t) = thn T1 p1 r1 T2 p2 r2 x + R) :
    RuleOk ((List.range (B + t)).map (thn T1 p1 r1 T2 p2 r2)) t R ∧ RB ((List.range (B + t)).map (thn T1 p1 r1 T2 p2 r2)) t R ∧ ∀ x, vl ((List.range (B + t)).map (thn T1 p1 r1 T2 p2 r2)) t R x = thn T1 p1 r1 T2 p2 r2 x := by
  refine ⟨tab_ok t0 R0 turn (thn_pos o2) (thn_up o1 o2), ⟨by rw [tab_len]; exact hb, by omega, fun i hi => ?_⟩, tab_vl t0 turn⟩
  rw [tab_len] at hi
  rw [tab_getD hi]
  have := (thn_le o1 o2 s1 s2 (show i ≤ 30000 by omega)).2
  omega
theorem reach {T1 : List Int} {p1 : Nat} {r1 y : Int} (o1 : RuleOk T1 p1 r1) (r0 : 0 < r1) (hy : y ≤ 300) {i : Nat} (hi : T1.length + 300 * p1 ≤ i) : y ≤ vl T1 p1 r1 i := by
  have a := vl_addk o1.p0 o1.p1 (r := r1) (x := T1.length) (by omega) 300
  have b := o1.le hi
  have c := o1.pos T1.length
  have d : (300 : Int) * 1 ≤ 300 * r1 := Int.mul_le_mul_of_nonneg_left (by omega) (by decide)
  rw [a] at b
  have e : ((300 : Nat) : Int) * r1 = 300 * r1 := rfl
  omega
def ThenOf (c : Addr) (T1 : List Int) (p1 : Nat) (r1 : Int) (T2 : List Int) (p2 : Nat) (r2 : Int) (H : Hp) (Q : VK) (E : XK) : Prop :=
  ∀ H' T p r, Same H H' → RB T p r → Short T p r → (∀ x, vl T p r x = thn T1 p1 r1 T2 p2 r2 x) → (∀ d, T.length ≤ 5000 → RuleAt H' d T p r → Q (.ref d) H') ∧ (5000 < T.length → Lng c (T.length : Int) H' E)
def sp_then (c : Addr) : Sp := fun vs H Q E => ∃ (d1 d2 : Addr) (T1 T2 : List Int) (p1 p2 : Nat) (r1 r2 : Int), vs = [.ref d1, .ref d2] ∧ RuleAt H d1 T1 p1 r1 ∧ RuleAt H d2 T2 p2 r2 ∧ RuleOk T1 p1 r1 ∧ RuleOk T2 p2 r2 ∧ RS 100000 T1 p1 r1 ∧ RS 100000 T2 p2 r2 ∧ ThenOf c T1 p1 r1 T2 p2 r2 H Q E
section
variable {P : Program} {w : World} {K : PySem.W.Frag} {mg : Str → Option Value} {base : Heap} {cTooLong : Addr}
abbrev s_value_of : Stmt := topS 11
abbrev N_value_of : List Str := ["rule", "x", "table", "period", "rise", "turns"]
theorem sc_value_of : FnScope N_value_of ["rule", "x"] (defScope s_value_of) := ⟨rfl, rfl, rfl, by decide +kernel, rfl, by decide +kernel, by decide +kernel⟩
theorem ok_value_of (T : Txt mg) (D : Df K mg "value_of" s_value_of ["rule", "x"]) : Cal P w K mg base "value_of" ["rule", "x"] 1 (sp_value_of K) := by
  refine D.cal sc_value_of (fun vs H Q E h => ?_) (fun f cdv A outer s H vs Q E hr h => ?_)
  · obtain ⟨d, T0, p, r, x, rfl, _⟩ := h
    rfl
  obtain ⟨d, T0, p, r, x, rfl, ⟨t, hd, ht⟩, o, b, k⟩ := h
  have p0 := o.p0
  have p1 := o.p1
  refine ⟨_, (pss_cons (ps_asg (pv 0) (pg_tup (by rfl) (pgs_cons (pg_name (i := 2) sc_value_of.nd rfl (Or.inl rfl)) (pgs_cons (pg_name (i := 3) sc_value_of.nd rfl (Or.inl rfl)) (pgs_cons (pg_name (i := 4) sc_value_of.nd rfl (Or.inl rfl)) pgs_nil)))))
    (pss_cons (ps_if (pt_cmpR op_lt (pv 1) (pe_callB call_len_seq (by rfl) T.n_len (by decide +kernel) (pa_cons (pv 2) pa_nil)) (nomark _)) (pss_one (ps_ret (pe_ix ix_tup (pv 2) (pv 1) (fun _ _ => rfl)))) pss_nil)
    (pss_cons (ps_set (i := 5) sc_value_of.nd rfl (Or.inl rfl) (pe_op op_add (pe_op op_fdivW (pe_op op_sub (pv 1) (pe_callB call_len_seq (by rfl) T.n_len (by decide +kernel) (pa_cons (pv 2) pa_nil))) (pv 3)) pe_int))
    (pss_one (ps_ret (pe_op op_add (pe_ix ix_tup (pv 2) (pe_op op_sub (pv 1) (pe_op op_mul (pv 5) (pv 3))) (fun _ _ => rfl)) (pe_op op_mul (pv 5) (pv 4)))))))), ?_⟩
  refine ⟨_, rfl, _, _, rfl, SqT.of hd, rfl, _, _, rfl, _, _, rfl, _, _, rfl, rfl, ?_⟩
  refine ⟨_, rfl, _, rfl, _, _, rfl, .inr (SqT.of ht), _, _, rfl, rfl, _, rfl, ite3 (fun e => ?_) (fun e => ?_)⟩
  · rw [len_int] at e
    have e : x < T0.length := by omega
    rw [vl_lt e] at k
    exact ⟨_, rfl, _, rfl, _, _, _, _, rfl, rfl, SqT.of ht, atI_nat (get_int e), k⟩
  · rw [len_int] at e
    have e : T0.length ≤ x := by omega
    have z : ∀ B : Int → Prop, B (((x - T0.length) / p + 1 : Nat) : Int) → B (((x : Int) - (((T0.map V.int).length : Nat) : Int)) / (p : Int) + 1) := fun B h => by rw [turns_eq e]; exact h
    refine ⟨_, rfl, _, rfl, _, _, rfl, .inr (SqT.of ht), _, _, rfl, rfl, _, rfl, _, _, rfl, rfl, b.div o, _, _, rfl, rfl, ?_⟩
    refine z (fun y => gName 5 (.int y) _ _ _) ?_
    clear z
    obtain ⟨a1, a2, a3⟩ := place p0 p1 e
    have kv : vl T0 p r x = T0.getD (x - ((x - T0.length) / p + 1) * p) 0 + (((x - T0.length) / p + 1 : Nat) : Int) * r := if_neg (by omega)
    rw [kv] at k
    generalize (x - T0.length) / p + 1 = q at a1 a2 a3 k ⊢
    exact ⟨_, rfl, _, rfl, _, rfl, _, rfl, _, _, rfl, rfl, b.mulP o, _, _, rfl, rfl, _, _, _, _, rfl, rfl, SqT.of ht, at_of (index_eq a1) (get_int a3), _, rfl, _, rfl, _, _, rfl, rfl, b.mulR o, _, _, rfl, rfl, k⟩
def FpW (t : Addr) (T : List Int) (lo : Nat) (y : Int) (H0 : Hp) : Nat → List (Option V) → Hp → Prop := fun m σ H => ∃ (a b : Nat) (v : Option V), m = b - a ∧ σ = [some (.ref t), some (.int (a : Int)), some (.int y), some (.int (b : Int)), v] ∧ H = H0 ∧
  lo ≤ a ∧ a ≤ b ∧ b < T.length ∧ y ≤ T.getD b 0 ∧ ∀ j, lo ≤ j → j < a → T.getD j 0 < y
abbrev s_first_place : Stmt := topS 14
abbrev N_first_place : List Str := ["table", "low", "y", "high", "middle"]
theorem sc_first_place : FnScope N_first_place ["table", "low", "y"] (defScope s_first_place) := ⟨rfl, rfl, rfl, by decide +kernel, rfl, by decide +kernel, by decide +kernel⟩
theorem ok_first_place (T : Txt mg) (D : Df K mg "first_place" s_first_place ["table", "low", "y"]) : Cal P w K mg base "first_place" ["table", "low", "y"] 1 (sp_first_place K) := by
  refine D.cal sc_first_place (fun vs H Q E h => ?_) (fun f cdv A outer s H vs Q E hr h => ?_)
  · obtain ⟨t, T0, lo, y, rfl, _⟩ := h
    rfl
  obtain ⟨t, T0, lo, y, rfl, ht, hlo, hlen, mono, hy, k⟩ := h
  refine ⟨_, (pss_cons (ps_set (i := 3) sc_first_place.nd rfl (Or.inl rfl) (pe_op op_sub (pe_callB call_len_seq (by rfl) T.n_len (by decide +kernel) (pa_cons (pv 0) pa_nil)) pe_int))
    (pss_cons (ps_while PassesOwn.never (pt_cmpR op_lt (pv 1) (pv 3) (nomark _))
      (pss_cons (ps_set (i := 4) sc_first_place.nd rfl (Or.inl rfl) (pe_op op_fdivW (pe_op op_add (pv 1) (pv 3)) pe_int))
    (pss_one (ps_if (pt_cmpR op_ge (pe_ix ix_tup (pv 0) (pv 4) (fun _ _ => rfl)) (pv 2) (nomark _)) (pss_one (ps_set (i := 3) sc_first_place.nd rfl (Or.inl rfl) (pv 4))) (pss_one (ps_set (i := 1) sc_first_place.nd rfl (Or.inl rfl) (pe_op op_add (pv 4) pe_int)))))))
    (pss_one (ps_ret (pv 1))))), ?_⟩
  refine ⟨_, rfl, _, _, rfl, .inr (SqT.of ht), _, _, rfl, rfl, ?_⟩
  have ll := len_int T0
  refine ⟨FpW t T0 lo y H, ⟨_, lo, T0.length - 1, none, rfl, ?_, rfl, Nat.le_refl _, by omega, by omega, hy, fun j h1 h2 => by omega⟩, ?_⟩
  · rw [show ((T0.length - 1 : Nat) : Int) = (((T0.map V.int).length : Nat) : Int) - 1 by rw [ll]; omega]
    rfl
  rintro m σ H' ⟨a, b, v, rfl, rfl, rfl, l1, l2, l3, hb, hj⟩
  refine ⟨_, rfl, _, rfl, _, _, rfl, rfl, _, rfl, ?_⟩
  by_cases e : (a : Int) < (b : Int)
  · have em : ((a : Int) + (b : Int)) / 2 = (((a + b) / 2 : Nat) : Int) := by
      rw [Int.natCast_ediv, Int.natCast_add]
      rfl
    have z : ∀ B : Int → Prop, B (((a + b) / 2 : Nat) : Int) → B (((a : Int) + (b : Int)) / 2) := fun B h => by rw [em]; exact h
    have q1 : (a + b) / 2 < T0.length := by omega
    refine iteP e ⟨FpW t T0 lo y H' |> fun W σ' H3 => ∃ m', m' < b - a ∧ W m' σ' H3, fun σ' H3 hw => hw, ?_⟩
    refine ⟨_, rfl, _, rfl, _, _, rfl, rfl, _, _, rfl, rfl, ⟨by decide, by decide⟩, ?_⟩
    refine z (fun y => gName 4 (.int y) _ _ _) ?_
    refine ⟨_, rfl, _, rfl, _, _, _, _, rfl, rfl, SqT.of ht, atI_nat (get_int q1), _, rfl, _, _, rfl, rfl, _, rfl, ite3 (fun e2 => ?_) (fun e2 => ?_)⟩
    · exact ⟨_, rfl, (a + b) / 2 - a, by omega, a, (a + b) / 2, _, rfl, rfl, rfl, l1, by omega, q1, e2, hj⟩
    · refine ⟨_, rfl, _, _, rfl, rfl, b - ((a + b) / 2 + 1), by omega, (a + b) / 2 + 1, b, _, rfl, rfl, rfl, by omega, by omega, l3, hb, fun j h1 h2 => ?_⟩
      have := mono j ((a + b) / 2) (by omega) q1
      omega
  · have ab : a = b := by omega
    subst ab
    exact iteN e ⟨_, rfl, k a l1 l3 hb hj⟩
abbrev s_least_for : Stmt := topS 13
abbrev N_least_for : List Str := ["rule", "y", "table", "period", "rise", "turns"]
theorem sc_least_for : FnScope N_least_for ["rule", "y"] (defScope s_least_for) := ⟨rfl, rfl, rfl, by decide +kernel, rfl, by decide +kernel, by decide +kernel⟩
theorem ok_least_for (T : Txt mg) (D : Df K mg "least_for" s_least_for ["rule", "y"]) (C_first_place : Cal P w K mg base "first_place" ["table", "low", "y"] 1 (sp_first_place K)) : Cal P w K mg base "least_for" ["rule", "y"] 2 (sp_least_for K) := by
  obtain ⟨f_first_place, fd_first_place, G_first_place, m_first_place, k_first_place, b_first_place⟩ := C_first_place
  refine D.cal sc_least_for (fun vs H Q E h => ?_) (fun f cdv A outer s H vs Q E hr h => ?_)
  · obtain ⟨d, T0, p, r, y, rfl, _⟩ := h
    rfl
  obtain ⟨d, T0, p, r, y, rfl, ⟨t, hd, ht⟩, o, bs, k⟩ := h
  have b := bs.rb (by decide)
  have p0 := o.p0
  have p1 := o.p1
  have r0 := o.r0
  have bl := b.len
  have ll := len_int T0
  have mono : ∀ i j, i ≤ j → j < T0.length → T0.getD i 0 ≤ T0.getD j 0 := fun i j h1 h2 => o.row h1 h2
  refine ⟨_, (pss_cons (ps_asg (pv 0) (pg_tup (by rfl) (pgs_cons (pg_name (i := 2) sc_least_for.nd rfl (Or.inl rfl)) (pgs_cons (pg_name (i := 3) sc_least_for.nd rfl (Or.inl rfl)) (pgs_cons (pg_name (i := 4) sc_least_for.nd rfl (Or.inl rfl)) pgs_nil)))))
    (pss_cons (ps_if (pt_cmpR op_ge (pe_ix ix_tup (pv 2) (pe_un un_neg pe_int) (fun _ _ => rfl)) (pv 1) (nomark _)) (pss_one (ps_ret (pe_call G_first_place (hr.mono (by decide)) (by rfl) m_first_place k_first_place b_first_place .nil pass0 (pa_cons (pv 2) (pa_cons pe_int (pa_cons (pv 1) pa_nil)))))) pss_nil)
    (pss_cons (ps_if (pt_cmpR op_eq (pv 4) pe_int (nomark _)) (pss_one (ps_ret pe_non)) pss_nil)
    (pss_cons (ps_set (i := 5) sc_least_for.nd rfl (Or.inl rfl) (pe_op op_fdivW (pe_op op_sub (pe_op op_add (pe_op op_sub (pv 1) (pe_ix ix_tup (pv 2) (pe_un un_neg pe_int) (fun _ _ => rfl))) (pv 4)) pe_int) (pv 4)))
    (pss_one (ps_ret (pe_op op_add (pe_call G_first_place (hr.mono (by decide)) (by rfl) m_first_place k_first_place b_first_place .nil pass0 (pa_cons (pv 2) (pa_cons (pe_op op_sub (pe_callB call_len_seq (by rfl) T.n_len (by decide +kernel) (pa_cons (pv 2) pa_nil)) (pv 3)) (pa_cons (pe_op op_sub (pv 1) (pe_op op_mul (pv 5) (pv 4))) pa_nil)))) (pe_op op_mul (pv 5) (pv 3))))))))), ?_⟩
  refine ⟨_, rfl, _, _, rfl, SqT.of hd, rfl, _, _, rfl, _, _, rfl, _, _, rfl, rfl, ?_⟩
  refine ⟨_, rfl, _, rfl, _, _, _, _, rfl, rfl, SqT.of ht, last_int (by omega), _, rfl, _, _, rfl, rfl, _, rfl, ite3 (fun e => ?_) (fun e => ?_)⟩
  · refine ⟨_, rfl, _, rfl, t, T0, 0, y, rfl, ht, by omega, bl, mono, e, fun i h0 h1 h2 h3 => ?_⟩
    exact k (some i) (lf_near h1 h2 fun j hj => h3 j (Nat.zero_le _) hj)
  refine ⟨_, rfl, rfl, _, rfl, ite3 (fun e1 => ?_) (fun e1 => ?_)⟩
  · exact k none ⟨V.int.inj e1, by omega⟩
  have r1 : 0 < r := by
    have : r ≠ 0 := fun q => e1 (congrArg V.int q)
    omega
  have rb := bs.r1
  refine ⟨_, rfl, _, rfl, _, rfl, _, _, _, _, rfl, rfl, SqT.of ht, last_int (by omega), _, _, rfl, rfl, _, rfl, _, _, rfl, rfl, _, _, rfl, rfl, _, rfl, _, _, rfl, rfl, wide_div (b := 60) r1 (by omega) (by decide) (by decide), ?_⟩
  obtain ⟨c1, c2⟩ := ceil_lo (a := y - T0.getD (T0.length - 1) 0) r1
  have kpos : 0 < (y - T0.getD (T0.length - 1) 0 + r - 1) / r := by
    have : 0 < (y - T0.getD (T0.length - 1) 0 + r - 1) / r * r := by omega
    exact Int.pos_of_mul_pos_left this (by omega)
  obtain ⟨kk, hk⟩ : ∃ kk : Nat, (y - T0.getD (T0.length - 1) 0 + r - 1) / r = (kk : Int) := ⟨_, (Int.toNat_of_nonneg (by omega)).symm⟩
  have z : ∀ B : Int → Prop, B (kk : Int) → B ((y - T0.getD (T0.length - 1) 0 + r - 1) / r) := fun B h => by rw [hk]; exact h
  refine z (fun y => gName 5 (.int y) _ _ _) ?_
  rw [hk] at c1 c2 kpos
  have el : (((T0.map V.int).length : Nat) : Int) - (p : Int) = ((T0.length - p : Nat) : Int) := by rw [ll]; omega
  refine ⟨_, rfl, _, rfl, _, _, rfl, .inr (SqT.of ht), _, rfl, _, _, rfl, rfl, _, rfl, _, rfl, _, rfl, _, _, rfl, rfl, .inr ⟨by omega, by omega⟩, _, _, rfl, rfl, t, T0, T0.length - p, _, congrArg (fun z => [V.ref t, V.int z, V.int (y - (kk : Int) * r)]) el, ht, by omega, bl, mono, by omega, fun i h0 h1 h2 h3 => ?_⟩
  refine ⟨_, rfl, _, rfl, _, _, rfl, rfl, b.mulP o, _, _, rfl, rfl, ?_⟩
  have q := k (some (i + kk * p)) (lf_far o (by omega) (by omega) h0 h1 h2 h3)
  have e : ((i + kk * p : Nat) : Int) = (i : Int) + (kk : Int) * (p : Int) := by rw [Int.natCast_add, Int.natCast_mul]
  show Q (.int ((i : Int) + (kk : Int) * (p : Int))) _
  rw [← e]
  exact q
abbrev s_then_rule : Stmt := topS 23
abbrev N_then_rule : List Str := ["first", "second", "begin", "times", "turn", "values", "worth"]
theorem sc_then_rule : FnScope N_then_rule ["first", "second"] (defScope s_then_rule) := ⟨rfl, rfl, rfl, by decide +kernel, rfl, by decide +kernel, by decide +kernel⟩
theorem ok_then_rule (T : Txt mg) (D : Df K mg "then_rule" s_then_rule ["first", "second"]) (C_begin_of : Cal P w K mg base "begin_of" ["rule"] 1 (sp_begin_of K)) (C_least_for : Cal P w K mg base "least_for" ["rule", "y"] 2 (sp_least_for K)) (C_value_of : Cal P w K mg base "value_of" ["rule", "x"] 1 (sp_value_of K)) (C_values_to : Cal P w K mg base "values_to" ["rule", "count"] 1 (sp_values_to K)) (C_told : CalX P w K mg base "told" ["table", "period", "rise"] 4 (sp_toldX cTooLong)) : CalX P w K mg base "then_rule" ["first", "second"] 5 (sp_then cTooLong) := by
  obtain ⟨f_begin_of, fd_begin_of, G_begin_of, m_begin_of, k_begin_of, b_begin_of⟩ := C_begin_of
  obtain ⟨f_least_for, fd_least_for, G_least_for, m_least_for, k_least_for, b_least_for⟩ := C_least_for
  obtain ⟨f_value_of, fd_value_of, G_value_of, m_value_of, k_value_of, b_value_of⟩ := C_value_of
  obtain ⟨f_values_to, fd_values_to, G_values_to, m_values_to, k_values_to, b_values_to⟩ := C_values_to
  obtain ⟨f_told, fd_told, G_told, m_told, k_told, b_told⟩ := C_told
  obtain ⟨f, fd, F, m, b⟩ := D
  refine ⟨f, fd, F.okX sc_then_rule (fun vs H Q E h => ?_) (fun cdv A outer s H vs Q E hr h => ?_), m, F.kp, b⟩
  · obtain ⟨d1, d2, T1, T2, p1, p2, r1, r2, rfl, _⟩ := h
    rfl
  obtain ⟨d1, d2, T1, T2, p1, p2, r1, r2, rfl, R1, R2, o1, o2, s1, s2, k⟩ := h
  refine ⟨_, (pss_cons (ps_set (i := 2) sc_then_rule.nd rfl (Or.inl rfl) (pe_call G_begin_of (hr.mono (by decide)) (by rfl) m_begin_of k_begin_of b_begin_of .nil pass0 (pa_cons (pv 0) pa_nil)))
    (pss_cons (ps_set (i := 3) sc_then_rule.nd rfl (Or.inl rfl) (pe_op op_fdivW (pe_ix ix_tup (pv 1) pe_int (fun _ _ => rfl)) (pe_callBfun cr_gcd (by rfl) T.g_gcd (pa_cons (pe_ix ix_tup (pv 1) pe_int (fun _ _ => rfl)) (pa_cons (pe_ix ix_tup (pv 0) pe_int (fun _ _ => rfl)) pa_nil)))))
    (pss_cut (ps_if (pt_cmpR op_gt (pe_ix ix_tup (pv 0) pe_int (fun _ _ => rfl)) pe_int (nomark _)) (pss_one (ps_set (i := 2) sc_then_rule.nd rfl (Or.inl rfl) (pe_callB (call_max2 rfl) (by rfl) T.n_max (by decide +kernel) (pa_cons (pv 2) (pa_cons (pe_call G_least_for (hr.mono (by decide)) (by rfl) m_least_for k_least_for b_least_for .nil pass0 (pa_cons (pv 0) (pa_cons (pe_call G_begin_of (hr.mono (by decide)) (by rfl) m_begin_of k_begin_of b_begin_of .nil pass0 (pa_cons (pv 1) pa_nil)) pa_nil))) pa_nil))))) pss_nil)
    (pss_cons (ps_set (i := 4) sc_then_rule.nd rfl (Or.inl rfl) (pe_op op_mul (pe_ix ix_tup (pv 0) pe_int (fun _ _ => rfl)) (pv 3)))
    (pss_cons (ps_setLc (i := 5) (own := [("worth", 6)]) (g := gName 6) (tt := tYes) rfl sc_then_rule.nd rfl rfl (sw_true rfl rfl rfl (by decide +kernel)) (pi_list (pe_call G_values_to (hr.mono (by decide)) (by rfl) m_values_to k_values_to b_values_to .nil pass0 (pa_cons (pv 0) (pa_cons (pe_op op_add (pv 2) (pv 4)) pa_nil)))) (blkOk_by (own := [("worth", 6)]) (N := N_then_rule) (sc := defScope s_then_rule) (by decide +kernel)) (fun _ _ _ _ _ => pg_name (i := 6) sc_then_rule.nd rfl (Or.inl rfl)) (fun _ _ _ _ _ => pts_nil) (fun _ _ _ _ _ => (pe_call G_value_of (hr.mono (by decide)) (by rfl) m_value_of k_value_of b_value_of .nil pass0 (pa_cons (pv 1) (pa_cons (pv 6) pa_nil)))))
    (pss_one (ps_ret (pe_callS G_told (hr.mono (by decide)) rfl m_told k_told b_told (fun σ => passAt (takes_of rfl rfl rfl rfl) σ) (pa_cons (pv 5) (pa_cons (pv 4) (pa_cons (pe_op op_mul (pe_ix ix_tup (pv 1) pe_int (fun _ _ => rfl)) (pe_op op_fdivW (pe_op op_mul (pe_ix ix_tup (pv 0) pe_int (fun _ _ => rfl)) (pv 3)) (pe_ix ix_tup (pv 1) pe_int (fun _ _ => rfl)))) pa_nil))))))))))), ?_⟩
  obtain ⟨t1, hd1, ht1⟩ := id R1
  obtain ⟨t2, hd2, ht2⟩ := id R2
  have l1 := s1.len
  have l2 := s2.len
  have q1 := s1.turn
  have q2 := s2.turn
  have u1 := s1.r1
  have u2 := s2.r1
  have rb1 := s1.rb (by decide)
  have rb2 := s2.rb (by decide)
  have r10 := o1.r0
  have r20 := o2.r0
  have p10 := o1.p0
  have p20 := o2.p0
  have g0 := Nat.gcd_pos_of_pos_left r1.natAbs p20
  have gl : Nat.gcd p2 r1.natAbs ≤ p2 := Nat.le_of_dvd p20 (Nat.gcd_dvd_left ..)
  obtain ⟨m0, m1, m2⟩ := thn_times (r1 := r1) p20 r10
  refine ⟨_, rfl, d1, T1, p1, r1, rfl, R1, o1.p1, ?_⟩
  have z : ∀ B : Int → Prop, B ((p2 / Nat.gcd p2 r1.natAbs : Nat) : Int) → B ((p2 : Int) / ((Nat.gcd (p2 : Int).natAbs r1.natAbs : Nat) : Int)) := fun B h => by
    rw [Int.natAbs_natCast, ← Int.natCast_ediv]
    exact h
  refine ⟨_, rfl, _, _, _, _, rfl, rfl, SqT.of hd2, atI_nat (j := 1) rfl, _, rfl, _, _, _, _, rfl, rfl, SqT.of hd2, atI_nat (j := 1) rfl, _, rfl, _, _, _, _, rfl, rfl, SqT.of hd1, atI_nat (j := 2) rfl, _, _, rfl, _, _, rfl, rfl, wide_div (b := 15) (by rw [Int.natAbs_natCast]; omega) (by rw [Int.natAbs_natCast, Int.natAbs_natCast]; omega) (by decide) (by decide), ?_⟩
  refine z (fun y => gName 3 (.int y) _ _ _) ?_
  clear z
  generalize p2 / Nat.gcd p2 r1.natAbs = tm at m0 m1 m2 ⊢
  refine ⟨fun σ H1 => H1 = H ∧ ∃ B : Nat, σ = [some (.ref d1), some (.ref d2), some (.int (B : Int)), some (.int (tm : Int)), none, none, none] ∧ T1.length - p1 ≤ B ∧ B ≤ 13000 ∧ (r1 = 0 ∨ ((T2.length - p2 : Nat) : Int) ≤ vl T1 p1 r1 B), ?_, ?_⟩
  · refine ⟨_, rfl, _, _, _, _, rfl, rfl, SqT.of hd1, atI_nat (j := 2) rfl, _, _, rfl, rfl, _, rfl, ite3 (fun e => ?_) (fun e => ?_)⟩
    · refine ⟨_, rfl, _, rfl, _, rfl, d2, T2, p2, r2, rfl, R2, o2.p1, d1, T1, p1, r1, _, rfl, R1, o1, s1.up (by decide), fun o lf => ?_⟩
      cases o with
      | none =>
        have := lf.1
        omega
      | some i =>
        obtain ⟨lf1, lf2⟩ := lf
        have ib : i ≤ T1.length + 300 * p1 := by
          rcases Nat.lt_or_ge (T1.length + 300 * p1) i with w | w
          · have := lf2 _ w
            have := reach o1 e (y := ((T2.length - p2 : Nat) : Int)) (by omega) (Nat.le_refl _)
            omega
          · exact w
        have em : (if (i : Int) > ((T1.length - p1 : Nat) : Int) then (i : Int) else ((T1.length - p1 : Nat) : Int)) = ((max (T1.length - p1) i : Nat) : Int) := by
          split <;> omega
        refine ⟨_, _, rfl, rfl, max (T1.length - p1) i, ?_, by omega, by omega, .inr ?_⟩
        · rw [← em]
          rfl
        · have := o1.le (show i ≤ max (T1.length - p1) i by omega)
          omega
    · exact ⟨rfl, T1.length - p1, rfl, by omega, by omega, .inl (by omega)⟩
  rintro σ H1 ⟨rfl, B, rfl, hB, hB2, hv⟩
  have tb : tm * p1 ≤ 1600 := Nat.mul_le_mul (show tm ≤ 40 by omega) q1
  have z : ∀ B : Int → Prop, B ((tm * p1 : Nat) : Int) → B ((p1 : Int) * (tm : Int)) := fun B h => by
    rw [← Int.natCast_mul, Nat.mul_comm p1]
    exact h
  refine ⟨_, rfl, _, _, _, _, rfl, rfl, SqT.of hd1, atI_nat (j := 1) rfl, _, rfl, _, _, rfl, rfl, .inl ⟨by omega, by omega⟩, ?_⟩
  refine z (fun y => gName 4 (.int y) _ _ _) ?_
  clear z
  have t0 : 0 < tm * p1 := Nat.mul_pos m0 p10
  have bq : ((r1.natAbs * tm / p2 : Nat) : Int) = r1 * (tm : Int) / (p2 : Int) := by
    rw [Int.natCast_ediv, Int.natCast_mul, Int.natAbs_of_nonneg r10]
  have bu : r1 * (tm : Int) / (p2 : Int) ≤ 4000000 := by
    have h1 : r1 * (tm : Int) ≤ 100000 * (tm : Int) := Int.mul_le_mul_of_nonneg_right u1 (by omega)
    have h2 := Int.ediv_le_self (b := (p2 : Int)) (show 0 ≤ r1 * (tm : Int) from Int.mul_nonneg r10 (by omega))
    omega
  have b0 : 0 ≤ r1 * (tm : Int) / (p2 : Int) := Int.ediv_nonneg (Int.mul_nonneg r10 (by omega)) (by omega)
  have turn := thn_turn (B := B) (a := tm) (b := r1.natAbs * tm / p2) o1 o2 hB m2 (hv.imp_left fun e => by rw [e]; simp)
  have R0 : 0 ≤ ((r1.natAbs * tm / p2 : Nat) : Int) * r2 := Int.mul_nonneg (by omega) r20
  have R9 : ((r1.natAbs * tm / p2 : Nat) : Int) * r2 ≤ 4000000 * 100000 := Int.mul_le_mul (by omega) u2 r20 (by decide)
  obtain ⟨ok, rb, hvl⟩ := thn_tab o1 o2 s1 s2 t0 R0 (by omega) (by omega) turn
  refine ⟨_, rfl, _, rfl, _, rfl, _, _, rfl, rfl, d1, T1, p1, r1, B + tm * p1, rfl, R1, o1, rb1, (by omega), fun H2 q sq ne hq => ?_⟩
  refine ⟨q, rfl, ⟨_, SqL.of hq⟩, fun D nD => ?_⟩
  have sD := same_upd (o := .lst []) nD
  refine lc_list (K := K) (a := q) (xs := (vals T1 p1 r1 (B + tm * p1)).map V.int) (fun j H' => Same H2 H' ∧ H' D = some (.lst (((List.range j).map (thn T1 p1 r1 T2 p2 r2)).map V.int))) ⟨sD, upd_same⟩ (fun i H' _ h => SqL.of (h.1 _ _ hq)) ?_ ?_
  · rintro j x H' hx ⟨s', hD⟩
    have hj : j < B + tm * p1 := by
      have := (List.getElem?_eq_some_iff.mp hx).1
      rwa [List.length_map, vals_len] at this
    rw [vals_get hj] at hx
    have ex := (Option.some.inj hx).symm
    subst ex
    refine ⟨rfl, ?_⟩
    unfold tYes
    refine iteT ?_
    have nn := o1.pos j
    refine ⟨_, rfl, _, rfl, d2, T2, p2, r2, (vl T1 p1 r1 j).toNat, by rw [Int.toNat_of_nonneg nn]; rfl, R2.same (sq.trans s'), o2, rb2, _, hD, ?_, fun b o e => ?_, ?_⟩
    · rw [List.length_map, List.length_map, List.length_range]
      exact Nat.lt_of_le_of_lt (show j ≤ 20000 by omega) (by decide)
    · rw [upd_ne (ne_of_none e nD)]
      exact s' _ _ e
    · rw [upd_same, List.range_succ, List.map_append, List.map_append]
      rfl
  rintro H3 ⟨s3, hD⟩
  rw [List.length_map, vals_len] at hD
  have s23 := sq.trans s3
  refine ⟨_, rfl, _, rfl, _, rfl, _, _, _, _, rfl, rfl, SqT.of (s23 _ _ hd2), atI_nat (j := 2) rfl, _, rfl, _, _, _, _, rfl, rfl, SqT.of (s23 _ _ hd1), atI_nat (j := 2) rfl, _, rfl, _, _, rfl, rfl, .inr ⟨by omega, by omega⟩, _, rfl, _, _, _, _, rfl, rfl, SqT.of (s23 _ _ hd2), atI_nat (j := 1) rfl, _, _, rfl, rfl, rb2.div o2, _, _, rfl, rfl, .inl ⟨by omega, by omega⟩, ?_⟩
  refine ⟨D, _, tm * p1, ((r1.natAbs * tm / p2 : Nat) : Int) * r2, by rw [bq]; exact congrArg (fun z => [V.ref D, V.int ((tm * p1 : Nat) : Int), V.int z]) (Int.mul_comm _ _), hD, ok, rb, fun H' d' T' p' r' s' R c sh hv' => ?_⟩
  obtain ⟨k1, k2⟩ := k H' T' p' r' (s23.trans s') (c.rb rb) sh fun x => by rw [hv', hvl]
  exact ⟨fun l => k1 d' l R, k2⟩
end
end Sm

set_option maxHeartbeats 4000000
namespace Sm
/-! the two written pairs of rules at the end of the law -/
theorem vl_flat {c : Int} (x : Nat) : vl [c] 1 0 x = c := by
  unfold vl
  split
  · rename_i h
    rw [show x = 0 by simp at h; omega]
    rfl
  · rename_i h
    simp only [List.length_cons, List.length_nil] at h ⊢
    rw [show x - ((x - (0 + 1)) / 1 + 1) * 1 = 0 by rw [Nat.div_one]; omega, Int.mul_zero, Int.add_zero]
    rfl
theorem zeros_at {i n : Nat} : (List.replicate n (0 : Int)).getD i 0 = 0 := by
  rw [List.getD_eq_getElem?_getD, List.getElem?_replicate]
  split <;> rfl
theorem vl_stairs {r : Int} (x : Nat) : vl (List.replicate 40 0) 40 r x = ((x / 40 : Nat) : Int) * r := by
  unfold vl
  rw [List.length_replicate, zeros_at, zeros_at]
  split
  · rename_i h
    rw [show x / 40 = 0 by omega]
    simp
  · rename_i h
    rw [show (x - 40) / 40 + 1 = x / 40 by omega, Int.zero_add]
theorem flat_short {c : Int} (c0 : 0 ≤ c) : Short [c] 1 0 := by
  refine ⟨⟨by decide, Nat.le_refl 1, by decide, fun i hi => ?_, fun i hi => ?_, ?_⟩, fun s c h1 h2 => by omega, .inl rfl⟩
  · simp only [List.length_cons, List.length_nil] at hi
    rw [show i = 0 by omega]
    exact c0
  · simp only [List.length_cons, List.length_nil] at hi
    omega
  · show c ≤ c + 0
    omega
theorem stairs_short {r : Int} (r0 : 0 < r) : Short (List.replicate 40 0) 40 r := by
  refine ⟨⟨by decide, by rw [List.length_replicate]; exact Nat.le_refl _, by omega, fun i hi => ?_, fun i hi => ?_, ?_⟩, fun s c h1 h2 _ h => ?_, .inl (by rw [List.length_replicate])⟩
  · rw [zeros_at]
    exact Int.le_refl _
  · rw [zeros_at, zeros_at]
    exact Int.le_refl _
  · rw [zeros_at, zeros_at]
    omega
  · have a := h 0 (by rw [List.length_replicate]; omega) (by rw [List.length_replicate]; decide)
    have b := h 39 (by rw [List.length_replicate]; omega) (by rw [List.length_replicate]; decide)
    rw [vl_stairs, zeros_at, show (0 + s) / 40 = 0 by omega] at a
    rw [vl_stairs, zeros_at, show (39 + s) / 40 = 1 by omega] at b
    simp at a b
    omega
theorem far_len {T : List Int} {p : Nat} {r : Int} (s : Short T p r) (hv : ∀ x, vl T p r x = max (vl (List.replicate 40 0) 40 1 x) (vl [999999999999] 1 0 x)) : T.length = 40000000000000 := by
  have := over_len (L := 39999999999959) s (stairs_short (r := 1) (by decide)) hv (by rw [List.length_replicate]; omega) (by rw [vl_stairs, vl_flat]; decide) fun x hx => by
    rw [vl_stairs, vl_flat]
    omega
  omega
theorem near_tab {T : List Int} {p : Nat} {r : Int} (s : Short T p r) (hv : ∀ x, vl T p r x = max (vl [4960] 1 0 x) (vl (List.replicate 40 0) 40 40 x)) : T = (List.range 5000).map (fun x => max 4960 (((x / 40 : Nat) : Int) * 40)) ∧ p = 40 ∧ r = 40 := by
  have hv2 : ∀ x, vl T p r x = max (vl (List.replicate 40 0) 40 40 x) (vl [4960] 1 0 x) := fun x => by rw [hv, Int.max_comm]
  obtain ⟨e1, e2, e3⟩ := over_len (L := 4959) s (stairs_short (r := 40) (by decide)) hv2 (by rw [List.length_replicate]; omega) (by rw [vl_stairs, vl_flat]; decide) fun x hx => by
    rw [vl_stairs, vl_flat]
    omega
  refine ⟨List.ext_getElem (by rw [List.length_map, List.length_range]; omega) fun i h1 h2 => ?_, e1, e2⟩
  have h := hv i
  rw [vl_lt h1, vl_flat, vl_stairs, List.getD_eq_getElem?_getD, List.getElem?_eq_getElem h1] at h
  rw [List.getElem_map, List.getElem_range]
  exact h
end Sm

set_option maxHeartbeats 4000000
namespace Sm
/-! each rule has a shortest tuple -/
theorem least_of {Q : Nat → Prop} (h : ∃ n, Q n) : ∃ n, Q n ∧ ∀ m, m < n → ¬ Q m := by
  obtain ⟨n, hn⟩ := h
  induction n using Nat.strongRecOn with
  | _ n ih =>
    by_cases q : ∃ m, m < n ∧ Q m
    · obtain ⟨m, hm, hq⟩ := q
      exact ih m hm hq
    · exact ⟨n, hn, fun m hm hq => q ⟨m, hm, hq⟩⟩
theorem short_is {T : List Int} {p : Nat} {r : Int} (o : RuleOk T p r) : ∃ T' p' r', Short T' p' r' ∧ ∀ x, vl T' p' r' x = vl T p r x := by
  have p0 := o.p0
  have p1 := o.p1
  obtain ⟨s, ⟨s0, sd, c, hc⟩, low⟩ := least_of (Q := fun s => 0 < s ∧ s ∣ p ∧ ∃ c, Rep T p r s c) ⟨p, p0, Nat.dvd_refl p, r, rep_self o⟩
  have sp : s ≤ p := Nat.le_of_dvd p0 sd
  have all := rep_all o hc
  have slope := rep_slope o sd hc
  have c0 : 0 ≤ c := by
    have h1 : 0 ≤ r * (s : Int) := Int.mul_nonneg o.r0 (by omega)
    rw [slope] at h1
    by_cases q : 0 ≤ c
    · exact q
    · have h2 : c * (p : Int) < 0 := Int.mul_neg_of_neg_of_pos (by omega) (by omega)
      omega
  obtain ⟨a, ⟨ha, hall⟩, lowa⟩ := least_of (Q := fun a => a ≤ T.length - p ∧ ∀ y, a ≤ y → vl T p r (y + s) = vl T p r y + c) ⟨T.length - p, Nat.le_refl _, all⟩
  refine ⟨T.take (a + s), s, c, cut_short o s0 sd ha c0 hall (fun s' c' h1 h2 h3 h4 => low s' h2 ⟨h1, h3, c', h4⟩) ?_, cut_vl s0 (by omega) hall⟩
  by_cases z : a = 0
  · exact .inl z
  · refine .inr fun e => lowa (a - 1) (by omega) ⟨by omega, fun y hy => ?_⟩
    by_cases q : y = a - 1
    · rw [q, e, vl_lt (by omega)]
    · exact hall y (by omega)
end Sm

set_option linter.all false
set_option maxHeartbeats 4000000
namespace Sm
/-! the inverse of a rule that ends rising: the least amounts -/
section
variable {T : List Int} {p : Nat} {r : Int}
theorem lf_is (o : RuleOk T p r) (r0 : 0 < r) (y : Nat) : ∃ i, IsLf T p r (y : Int) (some i) := by
  have far : (y : Int) ≤ vl T p r (T.length + y * p) := by
    have a := vl_addk o.p0 o.p1 (r := r) (x := T.length) (by omega) y
    have c := o.pos T.length
    have d : (y : Int) * 1 ≤ (y : Int) * r := Int.mul_le_mul_of_nonneg_left (by omega) (by omega)
    rw [a]
    omega
  obtain ⟨i, hi, low⟩ := least_of (Q := fun x => (y : Int) ≤ vl T p r x) ⟨_, far⟩
  exact ⟨i, hi, fun z hz => by have := low z hz; omega⟩
noncomputable def lf (T : List Int) (p : Nat) (r : Int) (y : Nat) : Nat :=
  open Classical in if h : ∃ i, IsLf T p r (y : Int) (some i) then Classical.choose h else 0
theorem lf_sp (o : RuleOk T p r) (r0 : 0 < r) (y : Nat) : IsLf T p r (y : Int) (some (lf T p r y)) := by
  have h := lf_is o r0 y
  unfold lf
  rw [dif_pos h]
  exact Classical.choose_spec h
theorem lf_le (o : RuleOk T p r) (r0 : 0 < r) {x y : Nat} : lf T p r y ≤ x ↔ (y : Int) ≤ vl T p r x := by
  obtain ⟨a, b⟩ := lf_sp o r0 y
  constructor
  · intro h
    have := o.le h
    omega
  · intro h
    rcases Nat.lt_or_ge x (lf T p r y) with q | q
    · have := b x q
      omega
    · exact q
theorem lf_up (o : RuleOk T p r) (r0 : 0 < r) (y : Nat) : lf T p r y ≤ lf T p r (y + 1) := by
  rw [lf_le o r0]
  have := (lf_sp o r0 (y + 1)).1
  omega
/-- from where on the inverse repeats: one more than this -/
def invB (T : List Int) (p : Nat) (r : Int) : Int := max (if p < T.length then T.getD (T.length - p - 1) 0 else -1) (T.getD (T.length - 1) 0 - r)
theorem invB_lo (o : RuleOk T p r) : -1 ≤ invB T p r := by
  unfold invB
  split
  · have := o.nn (T.length - p - 1) (by have := o.p0; omega)
    omega
  · omega
theorem inv_begin (o : RuleOk T p r) {x : Nat} (h : invB T p r < vl T p r x) : T.length - p ≤ x := by
  unfold invB at h
  have p0 := o.p0
  rcases Nat.lt_or_ge x (T.length - p) with q | q
  · have := o.le (show x ≤ T.length - p - 1 by omega)
    rw [vl_lt (x := T.length - p - 1) (by omega)] at this
    rw [if_pos (by omega)] at h
    omega
  · exact q
theorem inv_end (o : RuleOk T p r) {x : Nat} (h : invB T p r + r < vl T p r x) : T.length ≤ x := by
  unfold invB at h
  have p0 := o.p0
  have p1 := o.p1
  rcases Nat.lt_or_ge x T.length with q | q
  · have := o.le (show x ≤ T.length - 1 by omega)
    rw [vl_lt (x := T.length - 1) (by omega)] at this
    omega
  · exact q
theorem lf_turn (o : RuleOk T p r) (r0 : 0 < r) {s B : Nat} (hs : (s : Int) = r) (hB : invB T p r < (B : Int)) : ∀ y, B ≤ y → lf T p r (y + s) = lf T p r y + p := by
  intro y hy
  have p0 := o.p0
  have p1 := o.p1
  obtain ⟨a, b⟩ := lf_sp o r0 y
  obtain ⟨c, d⟩ := lf_sp o r0 (y + s)
  have h1 : T.length - p ≤ lf T p r y := inv_begin o (by omega)
  have h2 : T.length ≤ lf T p r (y + s) := inv_end o (by omega)
  have e1 := vl_add p0 p1 (r := r) (x := lf T p r y) h1
  have e2 := vl_add p0 p1 (r := r) (x := lf T p r (y + s) - p) (by omega)
  rw [show lf T p r (y + s) - p + p = lf T p r (y + s) by omega] at e2
  refine Nat.le_antisymm ?_ ?_
  · rw [lf_le o r0]
    omega
  · have : lf T p r y ≤ lf T p r (y + s) - p := by
      rw [lf_le o r0]
      omega
    omega
def invN (T : List Int) (p : Nat) (r : Int) : Nat := (invB T p r + 1).toNat
noncomputable def invT (T : List Int) (p : Nat) (r : Int) : List Int := (List.range (invN T p r + r.toNat)).map fun y => (lf T p r y : Int)
theorem inv_ok (o : RuleOk T p r) (r0 : 0 < r) : RuleOk (invT T p r) r.toNat (p : Int) ∧ ∀ y, vl (invT T p r) r.toNat (p : Int) y = (lf T p r y : Int) := by
  have b := invB_lo o
  have turn : ∀ x, invN T p r ≤ x → ((lf T p r (x + r.toNat) : Nat) : Int) = (lf T p r x : Int) + (p : Int) := fun x hx => by
    rw [lf_turn o r0 (s := r.toNat) (B := invN T p r) (by omega) (by unfold invN; omega) x hx, Int.natCast_add]
  exact ⟨tab_ok (f := fun y => (lf T p r y : Int)) (by omega) (by omega) turn (fun x => by omega) (fun x => by have := lf_up o r0 x; omega), tab_vl (f := fun y => (lf T p r y : Int)) (by omega) turn⟩
theorem invT_len : (invT T p r).length = invN T p r + r.toNat := by
  unfold invT
  rw [List.length_map, List.length_range]
/-- the inverse of the shortest tuple is the shortest of its values -/
theorem inv_short (s : Short T p r) (r0 : 0 < r) : Short (invT T p r) r.toNat (p : Int) := by
  have o := s.ok
  have p0 := o.p0
  have p1 := o.p1
  obtain ⟨oi, hv⟩ := inv_ok o r0
  have bl := invB_lo o
  have ln : (invT T p r).length = invN T p r + r.toNat := invT_len
  refine ⟨oi, fun u c u0 u1 ud rep => ?_, ?_⟩
  · -- no lesser turn
    have all := rep_all oi rep
    have slope := rep_slope oi ud rep
    have c0 : 0 < c := by
      by_cases q : 0 < c
      · exact q
      · have h1 : c * ((r.toNat : Nat) : Int) ≤ 0 := Int.mul_nonpos_of_nonpos_of_nonneg (by omega) (by omega)
        have h2 : 0 < (p : Int) * (u : Int) := Int.mul_pos (by omega) (by omega)
        omega
    have cp : c < (p : Int) := by
      by_cases q : c < (p : Int)
      · exact q
      · have h1 : (p : Int) * (u : Int) < (p : Int) * ((r.toNat : Nat) : Int) := Int.mul_lt_mul_of_pos_left (by omega) (by omega)
        have h2 : (p : Int) * ((r.toNat : Nat) : Int) ≤ c * ((r.toNat : Nat) : Int) := Int.mul_le_mul_of_nonneg_right (by omega) (by omega)
        omega
    obtain ⟨cn, hc⟩ : ∃ cn : Nat, c = (cn : Int) := ⟨c.toNat, (Int.toNat_of_nonneg (by omega)).symm⟩
    subst hc
    have far : ∀ y, invN T p r ≤ y → lf T p r (y + u) = lf T p r y + cn := fun y hy => by
      have := all y (by omega)
      rw [hv, hv] at this
      omega
    -- so the rule itself has a lesser turn
    have back : ∀ x, lf T p r (invN T p r) ≤ x → vl T p r (x + cn) = vl T p r x + (u : Int) := fun x hx => by
      have n0 := o.pos x
      have h1 := (lf_le o r0).mp hx
      obtain ⟨v, hvx⟩ : ∃ v : Nat, vl T p r x = (v : Int) := ⟨(vl T p r x).toNat, (Int.toNat_of_nonneg n0).symm⟩
      have a1 : lf T p r v ≤ x := by
        rw [lf_le o r0]
        omega
      have a2 : x < lf T p r (v + 1) := by
        rcases Nat.lt_or_ge x (lf T p r (v + 1)) with q | q
        · exact q
        · rw [ge_iff_le, lf_le o r0] at q
          omega
      have b1 := far v (by omega)
      have b2 := far (v + 1) (by omega)
      have d1 : ((v + u : Nat) : Int) ≤ vl T p r (x + cn) := by
        rw [← lf_le o r0]
        omega
      have d2 : ¬ ((v + 1 + u : Nat) : Int) ≤ vl T p r (x + cn) := by
        rw [← lf_le o r0]
        omega
      omega
    have key : Nat.gcd p cn = p := by
      obtain ⟨g, hg⟩ := gcd_turn (f := vl T p r) (A := max (lf T p r (invN T p r)) (T.length - p)) _ p cn (Nat.le_refl _) p0 (by omega) ⟨r, fun x hx => vl_add p0 p1 (by omega)⟩ ⟨(u : Int), fun x hx => back x (by omega)⟩
      have gl : Nat.gcd p cn ≤ p := Nat.le_of_dvd p0 (Nat.gcd_dvd_left ..)
      have g0 : 0 < Nat.gcd p cn := Nat.gcd_pos_of_pos_left _ p0
      by_cases q : Nat.gcd p cn = p
      · exact q
      · refine absurd (fun i h1 h2 => ?_) (s.turn (Nat.gcd p cn) g g0 (by omega) (Nat.gcd_dvd_left ..))
        have := rep_down o hg (x := i) h1
        rw [vl_lt h2] at this
        exact this
    have := Nat.le_of_dvd (show 0 < cn by omega) (Nat.gcd_dvd_right p cn)
    omega
  · -- no lesser start
    by_cases z : invN T p r = 0
    · left
      omega
    right
    obtain ⟨y, hy⟩ : ∃ y, invN T p r = y + 1 := ⟨invN T p r - 1, by omega⟩
    have yb : (y : Int) = invB T p r := by
      unfold invN at hy
      omega
    have g : (invT T p r).getD y 0 = (lf T p r y : Int) := by
      rw [← vl_lt (p := r.toNat) (r := (p : Int)) (by omega), hv]
    rw [ln, hv, hy, show y + 1 + r.toNat - 1 = y + r.toNat by omega, show y + 1 + r.toNat - r.toNat - 1 = y by omega, g]
    intro e
    have e : lf T p r (y + r.toNat) = lf T p r y + p := by omega
    obtain ⟨a, b⟩ := lf_sp o r0 y
    obtain ⟨c, d⟩ := lf_sp o r0 (y + r.toNat)
    have wrap := o.wrap
    unfold invB at yb
    by_cases q : p < T.length
    · rw [if_pos q] at yb
      have st := s.start
      rcases st with w | w
      · omega
      rw [vl_lt (by omega)] at w
      rcases Int.lt_or_le (T.getD (T.length - 1) 0 - r) (T.getD (T.length - p - 1) 0) with h | h
      · -- the one before
        have l1 : lf T p r y ≤ T.length - p - 1 := by
          rw [lf_le o r0, vl_lt (by omega)]
          omega
        have l2 : T.length ≤ lf T p r (y + r.toNat) := by
          rcases Nat.lt_or_ge (lf T p r (y + r.toNat)) T.length with q2 | q2
          · have := o.le (show lf T p r (y + r.toNat) ≤ T.length - 1 by omega)
            rw [vl_lt (x := T.length - 1) (by omega)] at this
            omega
          · exact q2
        omega
      · -- the one behind
        have l1 : T.length - p ≤ lf T p r y := by
          rcases Nat.lt_or_ge (lf T p r y) (T.length - p) with q2 | q2
          · have := o.le (show lf T p r y ≤ T.length - p - 1 by omega)
            rw [vl_lt (x := T.length - p - 1) (by omega)] at this
            omega
          · exact q2
        have l2 : lf T p r (y + r.toNat) ≤ T.length - 1 := by
          rw [lf_le o r0, vl_lt (by omega)]
          omega
        omega
    · rw [if_neg q] at yb
      have l2 : lf T p r (y + r.toNat) ≤ T.length - 1 := by
        rw [lf_le o r0, vl_lt (by omega)]
        omega
      omega
end
end Sm

set_option Elab.async false
set_option linter.all false
set_option maxRecDepth 100000
set_option maxHeartbeats 16000000
namespace Sm
open PySem PySem.Spec PyProof.Rows L2
open C8 (pss_cut tCut)
def InvOf (c : Addr) (T : List Int) (p : Nat) (r : Int) (H : Hp) (Q : VK) (E : XK) : Prop :=
  (invN T p r + r.toNat ≤ 5000 → ∀ H' d', Same H H' → RuleAt H' d' (invT T p r) r.toNat (p : Int) → Q (.ref d') H') ∧ (5000 < invN T p r + r.toNat → Lng c ((invN T p r + r.toNat : Nat) : Int) H E)
def sp_inv (c : Addr) : Sp := fun vs H Q E => ∃ (d : Addr) (T : List Int) (p : Nat) (r : Int), vs = [.ref d] ∧ RuleAt H d T p r ∧ RuleOk T p r ∧ 0 < r ∧ RS 10000000000000 T p r ∧ InvOf c T p r H Q E
section
variable {P : Program} {w : World} {K : PySem.W.Frag} {mg : Str → Option Value} {base : Heap} {cTooLong : Addr}
abbrev s_inverse_rule : Stmt := topS 24
abbrev N_inverse_rule : List Str := ["rule", "table", "period", "rise", "begin", "before", "behind", "number", "y"]
theorem sc_inverse_rule : FnScope N_inverse_rule ["rule"] (defScope s_inverse_rule) := ⟨rfl, rfl, rfl, by decide +kernel, rfl, by decide +kernel, by decide +kernel⟩
theorem ok_inverse_rule (T : Txt mg) (D : Df K mg "inverse_rule" s_inverse_rule ["rule"]) (C_begin_of : Cal P w K mg base "begin_of" ["rule"] 1 (sp_begin_of K)) (C_least_for : Cal P w K mg base "least_for" ["rule", "y"] 2 (sp_least_for K)) (C_check_told : CalX P w K mg base "check_told" ["number"] 3 (sp_check_told cTooLong)) : CalX P w K mg base "inverse_rule" ["rule"] 4 (sp_inv cTooLong) := by
  obtain ⟨f_begin_of, fd_begin_of, G_begin_of, m_begin_of, k_begin_of, b_begin_of⟩ := C_begin_of
  obtain ⟨f_least_for, fd_least_for, G_least_for, m_least_for, k_least_for, b_least_for⟩ := C_least_for
  obtain ⟨f_check_told, fd_check_told, G_check_told, m_check_told, k_check_told, b_check_told⟩ := C_check_told
  obtain ⟨f, fd, F, m, b⟩ := D
  refine ⟨f, fd, F.okX sc_inverse_rule (fun vs H Q E h => ?_) (fun cdv A outer s H vs Q E hr h => ?_), m, F.kp, b⟩
  · obtain ⟨d, T1, p1, r1, rfl, _⟩ := h
    rfl
  obtain ⟨d, T1, p1, r1, rfl, R1, o1, r0, s1, k1, k2⟩ := h
  refine ⟨_, (pss_cons (ps_asg (pv 0) (pg_tup (by rfl) (pgs_cons (pg_name (i := 1) sc_inverse_rule.nd rfl (Or.inl rfl)) (pgs_cons (pg_name (i := 2) sc_inverse_rule.nd rfl (Or.inl rfl)) (pgs_cons (pg_name (i := 3) sc_inverse_rule.nd rfl (Or.inl rfl)) pgs_nil)))))
    (pss_cons (ps_if (pt_cmpR op_eq (pv 3) pe_int (nomark _)) (pss_one ps_no) pss_nil)
    (pss_cons (ps_set (i := 4) sc_inverse_rule.nd rfl (Or.inl rfl) (pe_call G_begin_of (hr.mono (by decide)) (by rfl) m_begin_of k_begin_of b_begin_of .nil pass0 (pa_cons (pv 0) pa_nil)))
    (pss_cut (ps_set (i := 5) sc_inverse_rule.nd rfl (Or.inl rfl) (pe_ifExp (pt_cmpR op_gt (pv 4) pe_int (nomark _)) (pe_ix ix_tup (pv 1) (pe_op op_sub (pv 4) pe_int) (fun _ _ => rfl)) (pe_un un_neg pe_int)))
    (pss_cons (ps_set (i := 6) sc_inverse_rule.nd rfl (Or.inl rfl) (pe_op op_sub (pe_ix ix_tup (pv 1) (pe_un un_neg pe_int) (fun _ _ => rfl)) (pv 3)))
    (pss_cut (ps_set (i := 7) sc_inverse_rule.nd rfl (Or.inl rfl) (pe_op op_add (pe_op op_add (pe_callB (call_max2 rfl) (by rfl) T.n_max (by decide +kernel) (pa_cons (pv 5) (pa_cons (pv 6) pa_nil))) pe_int) (pv 3)))
    (pss_cons (ps_expr (pe_callS G_check_told (hr.mono (by decide)) rfl m_check_told k_check_told b_check_told (fun σ => passAt (takes_of rfl rfl rfl rfl) σ) (pa_cons (pv 7) pa_nil)))
    (pss_one (ps_ret (pe_tup (pa_cons (pe_callTy call_tuple_of (by rfl) T.n_tuple (by decide +kernel) (pa_cons (pe_lc (own := [("y", 8)]) (g := gName 8) (tt := tYes) rfl sc_inverse_rule.nd (pi_range1 (by rfl) T.n_range (pa_cons (pv 7) pa_nil)) (blkOk_by (own := [("y", 8)]) (N := N_inverse_rule) (sc := defScope s_inverse_rule) (by decide +kernel)) (fun _ _ _ _ _ => pg_name (i := 8) sc_inverse_rule.nd rfl (Or.inl rfl)) (fun _ _ _ _ _ => pts_nil) (fun _ _ _ _ _ => (pe_call G_least_for (hr.mono (by decide)) (by rfl) m_least_for k_least_for b_least_for .nil pass0 (pa_cons (pv 0) (pa_cons (pv 8) pa_nil))))) pa_nil)) (pa_cons (pv 3) (pa_cons (pv 2) pa_nil))))))))))))), ?_⟩
  obtain ⟨t, hd, ht⟩ := id R1
  have pp0 := o1.p0
  have pp1 := o1.p1
  have ll := len_int T1
  have l1 := s1.len
  have bl := invB_lo o1
  refine ⟨_, rfl, _, _, rfl, SqT.of hd, rfl, _, _, rfl, _, _, rfl, _, _, rfl, rfl, ?_⟩
  refine ⟨_, rfl, rfl, _, rfl, iteN (fun q => by have := V.int.inj q; omega) ?_⟩
  refine ⟨_, rfl, d, T1, p1, r1, rfl, R1, o1.p1, ?_⟩
  obtain ⟨bf, hbf⟩ : ∃ bf, bf = (if p1 < T1.length then T1.getD (T1.length - p1 - 1) 0 else -1) := ⟨_, rfl⟩
  refine ⟨fun σ H1 => H1 = H ∧ σ = [some (.ref d), some (.ref t), some (.int (p1 : Int)), some (.int r1), some (.int ((T1.length - p1 : Nat) : Int)), some (.int bf), none, none, none], ?_, ?_⟩
  · refine ⟨_, rfl, _, _, rfl, rfl, _, rfl, ite3 (fun e => ?_) (fun e => ?_)⟩
    · have e1 : ((T1.length - p1 : Nat) : Int) - 1 = ((T1.length - p1 - 1 : Nat) : Int) := by omega
      refine ⟨_, rfl, _, rfl, _, _, rfl, rfl, _, _, _, _, rfl, rfl, SqT.of ht, at_of e1 (get_int (by omega)), rfl, ?_⟩
      rw [hbf, if_pos (by omega)]
      rfl
    · refine ⟨_, rfl, rfl, ?_⟩
      rw [hbf, if_neg (by omega)]
      rfl
  rintro σ H1 ⟨rfl, rfl⟩
  refine ⟨_, rfl, _, rfl, _, _, _, _, rfl, rfl, SqT.of ht, last_int (by omega), _, rfl, _, _, rfl, rfl, ?_⟩
  obtain ⟨n, hn⟩ : ∃ n, n = invN T1 p1 r1 + r1.toNat := ⟨_, rfl⟩
  have en : (if T1.getD (T1.length - 1) 0 - r1 > bf then T1.getD (T1.length - 1) 0 - r1 else bf) + 1 + r1 = (n : Int) := by
    rw [hn, hbf]
    unfold invN invB at *
    split <;> omega
  refine ⟨fun σ H2 => H2 = H1 ∧ σ = [some (.ref d), some (.ref t), some (.int (p1 : Int)), some (.int r1), some (.int ((T1.length - p1 : Nat) : Int)), some (.int bf), some (.int (T1.getD (T1.length - 1) 0 - r1)), some (.int (n : Int)), none], ?_, ?_⟩
  · refine ⟨_, rfl, _, rfl, _, _, rfl, _, _, rfl, rfl, _, rfl, _, _, rfl, rfl, rfl, ?_⟩
    rw [← en]
    rfl
  rintro σ H2 ⟨rfl, rfl⟩
  rw [← hn] at k1 k2
  refine ⟨_, rfl, (n : Int), rfl, fun small => ?_, fun big => k2 (by omega)⟩
  have small : n ≤ 5000 := by omega
  refine ⟨_, rfl, _, rfl, by omega, by omega, fun U nU => ?_⟩
  have sU := same_upd (o := .lst []) nU
  rw [Int.toNat_natCast]
  refine lc_range (lo := 0) (n := n) (fun j H' => Same H2 H' ∧ H' U = some (.lst (((List.range j).map fun y => (lf T1 p1 r1 y : Int)).map V.int))) ⟨sU, upd_same⟩ ?_ ?_
  · rintro j H' hj ⟨s', hU⟩
    refine ⟨rfl, ?_⟩
    unfold tYes
    refine iteT ?_
    rw [Int.zero_add]
    refine ⟨_, rfl, _, rfl, d, T1, p1, r1, (j : Int), rfl, R1.same s', o1, s1, fun o ho => ?_⟩
    have := lf_one o1 ho (lf_sp o1 r0 j)
    subst this
    refine ⟨_, hU, ?_, fun b o e => ?_, ?_⟩
    · rw [List.length_map, List.length_map, List.length_range]
      exact Nat.lt_of_le_of_lt (show j ≤ 20000 by omega) (by decide)
    · rw [upd_ne (ne_of_none e nU)]
      exact s' _ _ e
    · rw [upd_same, List.range_succ, List.map_append, List.map_append]
      rfl
  rintro H3 ⟨s3, hU⟩
  refine ⟨_, _, rfl, .inl ⟨SqL.of hU, fun tq ntq => ⟨_, rfl, _, rfl, (by show 3 ≤ sizeLine; decide), fun q nq => ?_⟩⟩⟩
  have st := same_upd (o := .tup (((List.range n).map fun y => (lf T1 p1 r1 y : Int)).map V.int)) ntq
  have sq := same_upd (o := .tup [.ref tq, .int r1, .int (p1 : Int)]) nq
  refine k1 small _ q (s3.trans (st.trans sq)) ⟨tq, ?_, ?_⟩
  · rw [show ((r1.toNat : Nat) : Int) = r1 from Int.toNat_of_nonneg (by omega)]
    exact upd_same
  · have e : invT T1 p1 r1 = (List.range n).map fun y => (lf T1 p1 r1 y : Int) := by
      unfold invT
      rw [hn]
    rw [e]
    exact sq _ _ upd_same
end
end Sm

set_option Elab.async false
set_option linter.all false
set_option maxRecDepth 100000
set_option maxHeartbeats 16000000
namespace Sm
open PySem PySem.Spec PyProof.Rows L2
open C8 (pss_cut tCut)
def ToldInv (H : Hp) (q : Addr) (T : List Int) (p : Nat) (r : Int) : Prop := (invN T p r + r.toNat ≤ 5000 ∧ RuleAt H q (invT T p r) r.toNat (p : Int)) ∨ (5000 < invN T p r + r.toNat ∧ H q = some (.tup []))
def sp_l_told (_ : PySem.W.Frag) : Sp := fun vs H Q _ => ∃ (d : Addr) (T : List Int) (p : Nat) (r : Int), vs = [.ref d] ∧ RuleAt H d T p r ∧ RuleOk T p r ∧ 0 < r ∧ RS 10000000000000 T p r ∧ ∀ H' q, Same H H' → ToldInv H' q T p r → Q (.ref q) H'
structure Txo (K : PySem.W.Frag) (mg : Str → Option Value) (cTooLong : Addr) : Prop where
  gTooLong : mg "TooLong" = some (.ref cTooLong)
  te : PySem.W.exmOne K (.ref cTooLong) (.ref cTooLong) = some true
/-- amounts in a list at W, while draws go on -/
def Gr (p l W : Addr) (H0 : Hp) (n : Int) (c N : Nat) (H : Hp) : Prop := ∃ ms : List Int, H W = some (.lst (ms.map V.int)) ∧ W ≠ p ∧ W ≠ l ∧ ms.length = N ∧ (∀ x ∈ ms, 0 ≤ x ∧ x ≤ 1000000000000000000000000000000) ∧ Deck H p l (n + (c : Int)) ∧ ∀ b o, b ≠ p → b ≠ l → H0 b = some o → H b = some o
/-- a rule that lies at an address -/
structure Ru where
  a : Addr
  T : List Int
  p : Nat
  r : Int
def bad (u : Ru) : Bool := decide (200 < u.T.length) || decide (40 < u.p)
theorem lay_list : ∀ ns : List Int, PyData.canLayAll0 (ns.map PyData.int) = true
  | [] => rfl
  | n :: ns => by simp [PyData.canLayAll0, PyData.canLay0, lay_list ns]
theorem shaped_list (ns : List Int) : SeqAt.shaped (dataI ns) = true := by
  have d := depth_ints ns
  have e : (dataI ns).depth ≤ 64 := by
    unfold dataI
    simp only [PyData.depth]
    omega
  have l : (dataI ns).canLay0 = true := by
    unfold dataI
    simp only [PyData.canLay0, lay_list]
  unfold SeqAt.shaped
  rw [l, decide_eq_true e]
  rfl
theorem eqv_nil (ns : List Int) : PyData.eqv (dataI ns) (.list []) = decide (ns = []) := by
  cases ns with
  | nil => rfl
  | cons n ns => simp [dataI, PyData.eqv, PyData.eqvAll]
theorem ite3' {c : Prop} [Decidable c] {A B : Prop} (h : c) (a : A) : (if decide c = true then A else B) := by rw [decide_eq_true h]; exact a
theorem iten' {c : Prop} [Decidable c] {A B : Prop} (h : ¬ c) (b : B) : (if decide c = true then A else B) := by rw [decide_eq_false h]; exact b
def sp_l_all_small (_ : PySem.W.Frag) : Sp := fun vs H Q _ => ∃ (L : Addr) (us : List Ru), vs = [.ref L] ∧ H L = some (.lst (us.map fun u => V.ref u.a)) ∧ us.length ≤ 10 ∧ (∀ u ∈ us, RuleAt H u.a u.T u.p u.r) ∧
  ∀ H' b, Same H H' → (b = true ↔ ∀ u ∈ us, u.T.length ≤ 200 ∧ u.p ≤ 40) → Q (.bl b) H'
def sp_l_rising (_ : PySem.W.Frag) : Sp := fun vs H Q _ => ∃ (p l : Addr) (n long wide tall M : Int), vs = [.ref p, .int long, .int wide, .int tall] ∧ Deck H p l n ∧ 0 ≤ n ∧ n ≤ 900000 ∧ 0 ≤ long ∧ long ≤ 200 ∧ 1 ≤ wide ∧ wide ≤ 40 ∧ 0 ≤ tall ∧ tall ≤ 1000 ∧ (tall + 1) * (long + wide + 1) ≤ M ∧ M ≤ 10000000 ∧
  ∀ H' d T pp r n', Fr p l H H' → Deck H' p l n' → n ≤ n' → n' ≤ n + 1001 → RuleAt H' d T pp r → RS (M + 3) T pp r → (T.length : Int) ≤ long + wide → Short T pp r → 0 < r → Q (.ref d) H'
def sp_l_far (_ : PySem.W.Frag) : Sp := fun vs H Q _ => ∃ (p l : Addr) (n many : Int), vs = [.ref p, .int many] ∧ Deck H p l n ∧ 0 ≤ n ∧ n ≤ 900000 ∧ 1 ≤ many ∧ many ≤ 20000 ∧
  ∀ H' q n' (ns : List Int), Fr p l H H' → Deck H' p l n' → n ≤ n' → n' ≤ n + 20 → H' q = some (.lst (ns.map V.int)) → q ≠ p → q ≠ l → ns.length ≤ 24 → (∀ x ∈ ns, 0 ≤ x ∧ x ≤ 1000000000000000000000000000000) → Q (.ref q) H'
section
variable {P : Program} {w : World} {K : PySem.W.Frag} {mg : Str → Option Value} {base : Heap} {cTooLong : Addr}
abbrev s_l_told : Stmt := topS 38
abbrev N_l_told : List Str := ["_law_rule_here"]
theorem sc_l_told : FnScope N_l_told ["_law_rule_here"] (defScope s_l_told) := ⟨rfl, rfl, rfl, by decide +kernel, rfl, by decide +kernel, by decide +kernel⟩
theorem ok_l_told (T : Txt mg) (XC : Txo K mg cTooLong) (D : Df K mg "_law_told" s_l_told ["_law_rule_here"]) (C_inverse_rule : CalX P w K mg base "inverse_rule" ["rule"] 4 (sp_inv cTooLong)) : Cal P w K mg base "_law_told" ["_law_rule_here"] 5 (sp_l_told K) := by
  obtain ⟨f_inverse_rule, fd_inverse_rule, G_inverse_rule, m_inverse_rule, k_inverse_rule, b_inverse_rule⟩ := C_inverse_rule
  refine D.cal sc_l_told (fun vs H Q E h => ?_) (fun f cdv A outer s H vs Q E hr h => ?_)
  · obtain ⟨d, T1, p1, r1, rfl, _⟩ := h
    rfl
  obtain ⟨d, T1, p1, r1, rfl, R1, o1, r0, s1, k⟩ := h
  refine ⟨_, (pss_one (ps_try_only rfl rfl ⟨rfl, by decide, .inl XC.gTooLong⟩ takes0
      (fun W pn xe tk _ => (pss_one (ps_ret (pe_callS G_inverse_rule (hr.mono (by decide)) rfl m_inverse_rule k_inverse_rule b_inverse_rule (fun σ => passAt tk σ) (pa_cons (pv 0) pa_nil)))))
      (fun a oe cls d pn hz hf => (pss_one (ps_ret (pe_tup pa_nil)))))), ?_⟩
  refine ⟨_, rfl, d, T1, p1, r1, rfl, R1, o1, r0, s1, fun small H' d' s' R => k H' d' s' (.inl ⟨small, R⟩), fun big H' dd s' hd => ?_⟩
  refine ⟨true, XC.te, fun _ a0 na => ⟨(by show 0 ≤ sizeLine; decide), fun q nq => ?_⟩, fun q => nomatch q⟩
  exact k _ q (s'.trans (same_upd nq)) (.inr ⟨big, upd_same⟩)
abbrev s_l_all_small : Stmt := topS 33
abbrev N_l_all_small : List Str := ["_law_rules", "_law_rule_here"]
theorem sc_l_all_small : FnScope N_l_all_small ["_law_rules"] (defScope s_l_all_small) := ⟨rfl, rfl, rfl, by decide +kernel, rfl, by decide +kernel, by decide +kernel⟩
theorem ok_l_all_small (T : Txt mg) (D : Df K mg "_law_all_small" s_l_all_small ["_law_rules"]) : Cal P w K mg base "_law_all_small" ["_law_rules"] 1 (sp_l_all_small K) := by
  refine D.cal sc_l_all_small (fun vs H Q E h => ?_) (fun f cdv A outer s H vs Q E hr h => ?_)
  · obtain ⟨L, us, rfl, _⟩ := h
    rfl
  obtain ⟨L, us, rfl, hL, lu, hu, k⟩ := h
  refine ⟨_, (pss_one (ps_ret (pe_cmpR (op_eqD hr.units) (pe_lc (own := [("_law_rule_here", 1)]) (g := gName 1) (tt := _) rfl sc_l_all_small.nd (pi_list (pv 0)) (blkOk_by (own := [("_law_rule_here", 1)]) (N := N_l_all_small) (sc := defScope s_l_all_small) (by decide +kernel)) (fun _ _ _ _ _ => pg_name (i := 1) sc_l_all_small.nd rfl (Or.inl rfl)) (fun _ _ _ _ _ => pts_one (PW.pt (pw_or (pt_cmpR op_gt (pe_callB (show CallR _ _ (fun xs H Q => ∃ p ys, xs = [.ref p] ∧ (SqL K H p ys ∨ SqT K H p ys) ∧ Q (.int ys.length) H) from call_len_seq) (by rfl) T.n_len (by decide +kernel) (pa_cons (pe_ix (show IxR _ (rIxT K) from ix_tup) (pv 1) pe_int (fun _ _ => rfl)) pa_nil)) pe_int (nomark _)) (pw_or1 (pt_cmpR op_gt (pe_ix (show IxR _ (rIxT K) from ix_tup) (pv 1) pe_int (fun _ _ => rfl)) pe_int (nomark _)))))) (fun _ _ _ _ _ => pe_int)) (pe_lst pa_nil) (nomark _)))), ?_⟩
  refine ⟨_, rfl, L, rfl, ⟨_, SqL.of hL⟩, fun D nD => ?_⟩
  have sD := same_upd (o := .lst []) nD
  refine lc_list (K := K) (a := L) (xs := us.map fun u => V.ref u.a) (fun j H' => Same H H' ∧ H' D = some (.lst (((us.take j).filter bad).map fun _ => V.int 1))) ⟨sD, upd_same⟩ (fun i H' _ h => SqL.of (h.1 _ _ hL)) ?_ ?_
  · rintro j x H' hx ⟨s', hD⟩
    rw [List.getElem?_map] at hx
    cases e : us[j]? with
    | none => rw [e] at hx; cases hx
    | some u =>
      rw [e] at hx
      have ex := (Option.some.inj hx).symm
      subst ex
      obtain ⟨t, hd, ht⟩ := (hu u (List.mem_of_getElem? e)).same s'
      have ll := len_int u.T
      have tk : us.take (j + 1) = us.take j ++ [u] := by rw [List.take_add_one, e]; rfl
      have more : bad u = true → ∀ H2 : Hp, H2 = H' → ∃ acc, H2 D = some (.lst acc) ∧ acc.length < sizeLine ∧ Same H (upd H2 D (.lst (acc ++ [V.int 1]))) ∧ (upd H2 D (.lst (acc ++ [V.int 1]))) D = some (.lst (((us.take (j + 1)).filter bad).map fun _ => V.int 1)) := by
        rintro hb H2 rfl
        refine ⟨_, hD, ?_, fun b o h => ?_, ?_⟩
        · rw [List.length_map]
          refine Nat.lt_of_le_of_lt (Nat.le_trans (List.length_filter_le ..) ?_) (show 20 < sizeLine by decide)
          rw [List.length_take]
          omega
        · rw [upd_ne (ne_of_none h nD)]
          exact s' _ _ h
        · rw [upd_same, tk, List.filter_append, List.map_append, List.filter_cons_of_pos hb]
          rfl
      have less : bad u = false → Same H H' ∧ H' D = some (.lst (((us.take (j + 1)).filter bad).map fun _ => V.int 1)) := fun hb => by
        refine ⟨s', ?_⟩
        rw [hD, tk, List.filter_append, List.filter_cons_of_neg (by rw [hb]; exact Bool.false_ne_true), List.filter_nil, List.append_nil]
      refine ⟨rfl, ?_⟩
      refine ⟨_, rfl, _, _, _, _, rfl, rfl, SqT.of hd, atI_nat (j := 0) rfl, _, _, rfl, .inr (SqT.of ht), _, _, rfl, rfl, _, rfl, ?_⟩
      by_cases c1 : (200 : Int) < (((u.T.map V.int).length : Nat) : Int)
      · exact iteP c1 (iteT (more (by unfold bad; rw [decide_eq_true (show 200 < u.T.length by omega)]; rfl) _ rfl))
      · refine iteN c1 ⟨_, rfl, _, _, _, _, rfl, rfl, SqT.of hd, atI_nat (j := 1) rfl, _, _, rfl, rfl, _, rfl, ?_⟩
        by_cases c2 : (40 : Int) < (u.p : Int)
        · refine ite3' c2 ?_
          exact more (by unfold bad; rw [decide_eq_true (show 40 < u.p by omega), Bool.or_true]) _ rfl
        · refine iten' c2 ?_
          exact less (by unfold bad; rw [decide_eq_false (show ¬ 200 < u.T.length by omega), decide_eq_false (show ¬ 40 < u.p by omega)]; rfl)
  rintro H1 ⟨s1, hD⟩
  rw [List.length_map, List.take_length] at hD
  refine ⟨(by show 0 ≤ sizeLine; decide), fun q nq => ?_⟩
  have sq := same_upd (o := .lst []) nq
  obtain ⟨ns, hns⟩ : ∃ ns : List Int, ns = (us.filter bad).map fun _ => (1 : Int) := ⟨_, rfl⟩
  have hD : H1 D = some (.lst (ns.map V.int)) := by
    rw [hD, hns, List.map_map]
    rfl
  refine ⟨dataI ns, .list [], .lst (SqL.of (sq _ _ hD)) (dp_ints ns), .lst (SqL.of upd_same) .nil, shaped_list ns, rfl, ?_⟩
  refine k _ _ (s1.trans sq) ?_
  rw [eqv_nil]
  constructor
  · intro h u hu'
    have h := of_decide_eq_true h
    rw [hns, List.map_eq_nil_iff, List.filter_eq_nil_iff] at h
    have := h u hu'
    unfold bad at this
    simp at this
    omega
  · intro h
    refine decide_eq_true ?_
    rw [hns, List.map_eq_nil_iff, List.filter_eq_nil_iff]
    intro u hu' hb
    have := h u hu'
    unfold bad at hb
    simp at hb
    omega
abbrev s_l_rising : Stmt := topS 34
abbrev N_l_rising : List Str := ["_law_deck_here", "_law_long", "_law_wide", "_law_tall", "_law_table", "_law_period", "_law_rise"]
theorem sc_l_rising : FnScope N_l_rising ["_law_deck_here", "_law_long", "_law_wide", "_law_tall"] (defScope s_l_rising) := ⟨rfl, rfl, rfl, by decide +kernel, rfl, by decide +kernel, by decide +kernel⟩
theorem ok_l_rising (T : Txt mg) (D : Df K mg "_law_rising" s_l_rising ["_law_deck_here", "_law_long", "_law_wide", "_law_tall"]) (C_l_least : Cal P w K mg base "_law_least" ["_law_rule_here"] 3 (sp_l_least K)) (C_l_draw : Cal P w K mg base "_law_draw" ["_law_deck_here", "_law_many"] 1 (sp_l_draw K)) (C_l_rule : Cal P w K mg base "_law_rule" ["_law_deck_here", "_law_long", "_law_wide", "_law_tall"] 4 (sp_l_rule K)) : Cal P w K mg base "_law_rising" ["_law_deck_here", "_law_long", "_law_wide", "_law_tall"] 5 (sp_l_rising K) := by
  obtain ⟨f_l_least, fd_l_least, G_l_least, m_l_least, k_l_least, b_l_least⟩ := C_l_least
  obtain ⟨f_l_draw, fd_l_draw, G_l_draw, m_l_draw, k_l_draw, b_l_draw⟩ := C_l_draw
  obtain ⟨f_l_rule, fd_l_rule, G_l_rule, m_l_rule, k_l_rule, b_l_rule⟩ := C_l_rule
  refine D.cal sc_l_rising (fun vs H Q E h => ?_) (fun f cdv A outer s H vs Q E hr h => ?_)
  · obtain ⟨p, l, n, long, wide, tall, M, rfl, _⟩ := h
    rfl
  obtain ⟨p, l, n, long, wide, tall, M, rfl, D, n0, n1, lo0, lo1, wi0, wi1, ta0, ta1, hM, M1, k⟩ := h
  refine ⟨_, (pss_cons (ps_asg (pe_call G_l_rule (hr.mono (by decide)) (by rfl) m_l_rule k_l_rule b_l_rule .nil pass0 (pa_cons (pv 0) (pa_cons (pv 1) (pa_cons (pv 2) (pa_cons (pv 3) pa_nil))))) (pg_tup (by rfl) (pgs_cons (pg_name (i := 4) sc_l_rising.nd rfl (Or.inl rfl)) (pgs_cons (pg_name (i := 5) sc_l_rising.nd rfl (Or.inl rfl)) (pgs_cons (pg_name (i := 6) sc_l_rising.nd rfl (Or.inl rfl)) pgs_nil)))))
    (pss_one (ps_ret (pe_call G_l_least (hr.mono (by decide)) (by rfl) m_l_least k_l_least b_l_least .nil pass0 (pa_cons (pe_tup (pa_cons (pv 4) (pa_cons (pv 5) (pa_cons (pe_op op_add (pe_op op_add (pv 6) pe_int) (pe_call G_l_draw (hr.mono (by decide)) (by rfl) m_l_draw k_l_draw b_l_draw .nil pass0 (pa_cons (pv 0) (pa_cons pe_int pa_nil)))) pa_nil)))) pa_nil))))), ?_⟩
  refine ⟨_, rfl, _, rfl, _, rfl, _, rfl, p, l, n, long, wide, tall, M, rfl, D, n0, n1, lo0, lo1, wi0, wi1, ta0, ta1, hM, M1, fun H1 d T1 p1 r1 n' f1 D1 m0 m1 R1 rs1 ln1 sh1 => ?_⟩
  obtain ⟨t, hd, ht⟩ := id R1
  have o := sh1.ok
  have p0 := o.p0
  have r0 := o.r0
  have u1 := rs1.r1
  refine ⟨_, _, rfl, SqT.of hd, rfl, _, _, rfl, _, _, rfl, _, _, rfl, rfl, ?_⟩
  refine ⟨_, rfl, _, rfl, _, rfl, _, _, rfl, rfl, _, rfl, p, l, n', 3, rfl, D1, by omega, by omega, by decide, by decide, fun c H2 c0 c1 f2 D2 => ⟨_, _, rfl, rfl, (by show 3 ≤ sizeLine; decide), fun e ne => ?_⟩⟩
  have se := same_upd (o := .tup [.ref t, .int (p1 : Int), .int (r1 + 1 + c)]) ne
  have ok : RuleOk T1 p1 (r1 + 1 + c) := ⟨o.p0, o.p1, by omega, o.nn, o.mono, by have := o.wrap; omega⟩
  have rs : RS (M + 3) T1 p1 (r1 + 1 + c) := ⟨rs1.len, rs1.turn, by omega, fun i hi => by have := rs1.top i hi; omega⟩
  refine ⟨e, T1, p1, r1 + 1 + c, rfl, ⟨t, upd_same, se _ _ (f2.tup D1 ht)⟩, ok, rs.rb (by omega), fun H3 d' T' p' r' s3 R cut sh hv => ?_⟩
  refine k H3 d' T' p' r' (n' + 1) (f1.trans (f2.trans (Same.fr (se.trans s3)))) (D2.same (se.trans s3)) (by omega) (by omega) R (cut.rs rs) (by have := cut.len; omega) sh ?_
  have o' := sh.ok
  have e1 := vl_addk o'.p0 o'.p1 (r := r') (x := T1.length + T'.length) (by omega) p1
  have e2 := vl_addk o.p0 o.p1 (r := r1 + 1 + c) (x := T1.length + T'.length) (by omega) p'
  rw [hv, hv, Nat.mul_comm, e2] at e1
  have h1 : 0 < (p' : Int) * (r1 + 1 + c) := Int.mul_pos (by have := o'.p0; omega) (by omega)
  have r0' := o'.r0
  by_cases z : r' = 0
  · rw [z, Int.mul_zero] at e1
    omega
  · omega
abbrev s_l_far : Stmt := topS 35
abbrev N_l_far : List Str := ["_law_deck_here", "_law_many", "_law_found", "_law_k"]
theorem sc_l_far : FnScope N_l_far ["_law_deck_here", "_law_many"] (defScope s_l_far) := ⟨rfl, rfl, rfl, by decide +kernel, rfl, by decide +kernel, by decide +kernel⟩
theorem ok_l_far (T : Txt mg) (D : Df K mg "_law_far" s_l_far ["_law_deck_here", "_law_many"]) (C_l_draw : Cal P w K mg base "_law_draw" ["_law_deck_here", "_law_many"] 1 (sp_l_draw K)) (C_l_one : Cal P w K mg base "_law_one" ["_law_deck_here", "_law_items"] 2 (sp_l_one K)) : Cal P w K mg base "_law_far" ["_law_deck_here", "_law_many"] 3 (sp_l_far K) := by
  obtain ⟨f_l_draw, fd_l_draw, G_l_draw, m_l_draw, k_l_draw, b_l_draw⟩ := C_l_draw
  obtain ⟨f_l_one, fd_l_one, G_l_one, m_l_one, k_l_one, b_l_one⟩ := C_l_one
  refine D.cal sc_l_far (fun vs H Q E h => ?_) (fun f cdv A outer s H vs Q E hr h => ?_)
  · obtain ⟨p, l, n, many, rfl, _⟩ := h
    rfl
  obtain ⟨p, l, n, many, rfl, D, n0, n1, m0, m1, k⟩ := h
  refine ⟨_, (pss_cons (ps_set (i := 2) sc_l_far.nd rfl (Or.inl rfl) (pe_op op_cat (pe_op op_cat (pe_listRg rfl (by rfl) T.n_list (prg_1 (by rfl) T.n_range pe_int)) (pe_lc (own := [("_law_k", 3)]) (g := gName 3) (tt := tYes) rfl sc_l_far.nd (pi_range1 (by rfl) T.n_range (pa_cons pe_int pa_nil)) (blkOk_by (own := [("_law_k", 3)]) (N := N_l_far) (sc := defScope s_l_far) (by decide +kernel)) (fun _ _ _ _ _ => pg_name (i := 3) sc_l_far.nd rfl (Or.inl rfl)) (fun _ _ _ _ _ => pts_nil) (fun _ _ _ _ _ => (pe_op op_add (pe_op op_sub (pv 1) pe_int) (pv 3))))) (pe_lc (own := [("_law_k", 3)]) (g := gName 3) (tt := tYes) rfl sc_l_far.nd (pi_range1 (by rfl) T.n_range (pa_cons pe_int pa_nil)) (blkOk_by (own := [("_law_k", 3)]) (N := N_l_far) (sc := defScope s_l_far) (by decide +kernel)) (fun _ _ _ _ _ => pg_name (i := 3) sc_l_far.nd rfl (Or.inl rfl)) (fun _ _ _ _ _ => pts_nil) (fun _ _ _ _ _ => (pe_call G_l_draw (hr.mono (by decide)) (by rfl) m_l_draw k_l_draw b_l_draw .nil pass0 (pa_cons (pv 0) (pa_cons (pe_op op_mul pe_int (pv 1)) pa_nil)))))))
    (pss_one (ps_ret (pe_op op_cat (pv 2) (pe_lc (own := [("_law_k", 3)]) (g := gName 3) (tt := tYes) rfl sc_l_far.nd (pi_range1 (by rfl) T.n_range (pa_cons pe_int pa_nil)) (blkOk_by (own := [("_law_k", 3)]) (N := N_l_far) (sc := defScope s_l_far) (by decide +kernel)) (fun _ _ _ _ _ => pg_name (i := 3) sc_l_far.nd rfl (Or.inl rfl)) (fun _ _ _ _ _ => pts_nil) (fun _ _ _ _ _ => (pe_op op_mul (pe_call G_l_draw (hr.mono (by decide)) (by rfl) m_l_draw k_l_draw b_l_draw .nil pass0 (pa_cons (pv 0) (pa_cons (pe_op op_pow pe_int pe_int) pa_nil))) (pe_call G_l_one (hr.mono (by decide)) (by rfl) m_l_one k_l_one b_l_one .nil pass0 (pa_cons (pv 0) (pa_cons (pe_lst (pa_cons pe_int (pa_cons (pe_op op_pow pe_int pe_int) (pa_cons (pe_op op_pow pe_int pe_int) pa_nil)))) pa_nil)))))))))), ?_⟩
  have fin : ∀ (ns ms : List Int) (N : Nat), ns.length ≤ N → ms.length ≤ 6 → (∀ x ∈ ns, 0 ≤ x ∧ x ≤ 1000000000000000000000000000000) → (∀ x ∈ ms, 0 ≤ x ∧ x ≤ 1000000000000000000000000000000) → (ns ++ ms).length ≤ N + 6 ∧ ∀ x ∈ ns ++ ms, 0 ≤ x ∧ x ≤ 1000000000000000000000000000000 := fun ns ms N h1 h2 h3 h4 => by
    refine ⟨by rw [List.length_append]; omega, fun x hx => ?_⟩
    rcases List.mem_append.mp hx with h | h
    · exact h3 x h
    · exact h4 x h
  have up0 : ∀ {W : Addr} {H9 : Hp} {y : V} {xs : List V} {p l : Addr} {m : Int}, Deck H9 p l m → W ≠ p → W ≠ l → Deck (upd H9 W (.lst xs)) p l m := fun {W H9 y xs p l m} D h1 h2 => by
    obtain ⟨cells, hl, hc⟩ := D.hl
    exact ⟨by rw [upd_ne h1.symm]; exact D.hp, cells, by rw [upd_ne h2.symm]; exact hl, hc⟩
  refine ⟨6, rfl, ⟨by decide, by decide, by decide⟩, fun A nA => ?_⟩
  have sA := same_upd (o := .lst (rgV 0 6)) nA
  have hA : upd H A (.lst (rgV 0 6)) A = some (.lst (([0, 1, 2, 3, 4, 5] : List Int).map V.int)) := upd_same
  have DA := D.same sA
  generalize upd H A (.lst (rgV 0 6)) = HA at sA hA DA ⊢
  refine ⟨3, rfl, by decide, by decide, fun U nU => ?_⟩
  have sU := same_upd (o := .lst []) nU
  refine lc_range (lo := 0) (n := 3) (fun j H2 => Same HA H2 ∧ H2 U = some (.lst (((List.range j).map fun k : Nat => many - 1 + (k : Int)).map V.int))) ⟨sU, upd_same⟩ ?_ ?_
  · rintro j H2 hj ⟨s2, hU⟩
    refine ⟨rfl, ?_⟩
    unfold tYes
    refine iteT ?_
    rw [Int.zero_add]
    refine ⟨_, rfl, _, _, rfl, rfl, _, rfl, _, _, rfl, rfl, _, hU, ?_, fun b o e' => ?_, ?_⟩
    · rw [List.length_map, List.length_map, List.length_range]
      exact Nat.lt_of_le_of_lt (show j ≤ 20000 by omega) (by decide)
    · rw [upd_ne (ne_of_none e' nU)]
      exact s2 _ _ e'
    · rw [upd_same, List.range_succ, List.map_append, List.map_append]
      rfl
  rintro H2 ⟨s2, hU⟩
  refine ⟨A, U, _, _, rfl, rfl, s2 _ _ hA, hU, (by rw [List.length_map, List.length_map, List.length_map, List.length_range]; show 6 + 3 ≤ sizeLine; decide), fun C nC => ?_⟩
  have sC := same_upd (o := .lst (([0, 1, 2, 3, 4, 5] : List Int).map V.int ++ ((List.range 3).map fun k : Nat => many - 1 + (k : Int)).map V.int)) nC
  have lneC := (DA.same s2).lne nC
  have hC : upd H2 C (.lst (([0, 1, 2, 3, 4, 5] : List Int).map V.int ++ ((List.range 3).map fun k : Nat => many - 1 + (k : Int)).map V.int)) C = some (.lst ((([0, 1, 2, 3, 4, 5] : List Int) ++ (List.range 3).map fun k : Nat => many - 1 + (k : Int)).map V.int)) := by
    rw [upd_same, List.map_append]
  obtain ⟨l9, b9⟩ := fin [0, 1, 2, 3, 4, 5] ((List.range 3).map fun k : Nat => many - 1 + (k : Int)) 6 (Nat.le_refl 6) (by rw [List.length_map, List.length_range]; decide) (fun x hx => by simp at hx; omega) (fun x hx => by
    obtain ⟨y, hy, rfl⟩ := List.mem_map.mp hx
    have := List.mem_range.mp hy
    omega)
  have sHC := sA.trans (s2.trans sC)
  have DC := DA.same (s2.trans sC)
  generalize ([0, 1, 2, 3, 4, 5] : List Int) ++ (List.range 3).map (fun k : Nat => many - 1 + (k : Int)) = ns9 at hC l9 b9
  generalize upd H2 C _ = HC at hC sHC DC ⊢
  clear sC s2 hU sU nU hA sA nA DA nC
  refine ⟨6, rfl, by decide, by decide, fun W nW => ?_⟩
  have lneW := DC.lne nW
  have sW := same_upd (o := .lst []) nW
  refine lc_range (lo := 0) (n := 6) (fun j H2 => Gr p l W HC n j j H2) ⟨[], upd_same, lneW.1, lneW.2, rfl, (fun x h => nomatch h), by rw [show n + ((0 : Nat) : Int) = n by omega]; exact DC.same sW, fun b o h1 h2 h => sW b o h⟩ ?_ ?_
  · rintro j H2 hj ⟨ms, hW, w1, w2, lm, bm, D2, kp⟩
    refine ⟨rfl, ?_⟩
    unfold tYes
    refine iteT ?_
    refine ⟨_, rfl, _, rfl, _, _, rfl, rfl, .inl ⟨by decide, by decide⟩, p, l, n + (j : Int), 4 * many, rfl, D2, by omega, by omega, by omega, by omega, fun r H3 r0 r1 f3 D3 => ?_⟩
    refine ⟨_, f3 _ _ w1 w2 hW, ?_, ms ++ [r], ?_, w1, w2, by rw [List.length_append, lm]; rfl, fun x hx => ?_, up0 (y := .non) (by rw [show n + ((j + 1 : Nat) : Int) = n + (j : Int) + 1 by omega]; exact D3) w1 w2, fun b o h1 h2 h => ?_⟩
    · rw [List.length_map, lm]
      exact Nat.lt_of_le_of_lt (show j ≤ 20000 by omega) (by decide)
    · rw [upd_same, List.map_append]
      rfl
    · rcases List.mem_append.mp hx with h | h
      · exact bm x h
      · rw [List.mem_singleton.mp h]
        omega
    · rw [upd_ne (ne_of_none h nW)]
      exact f3 b o h1 h2 (kp b o h1 h2 h)
  rintro H2 ⟨ms, hW, w1, w2, lm, bm, D2, kp⟩
  refine ⟨C, W, _, _, rfl, rfl, kp _ _ lneC.1 lneC.2 hC, hW, (by rw [List.length_map, List.length_map]; exact Nat.le_trans (show ns9.length + ms.length ≤ 30 by omega) (by decide)), fun A2 nA2 => ?_⟩
  obtain ⟨l8, b8⟩ := fin ns9 ms 12 l9 (by omega) b9 bm
  have sA2 := same_upd (o := .lst (ns9.map V.int ++ ms.map V.int)) nA2
  have hA2 : upd H2 A2 (.lst (ns9.map V.int ++ ms.map V.int)) A2 = some (.lst ((ns9 ++ ms).map V.int)) := by
    rw [upd_same, List.map_append]
  have lneA2 := D2.lne nA2
  have D4 := D2.same sA2
  have frA : Fr p l H (upd H2 A2 (.lst (ns9.map V.int ++ ms.map V.int))) := fun b o h1 h2 h => sA2 b o (kp b o h1 h2 (sHC b o h))
  generalize ns9 ++ ms = ns8 at hA2 l8 b8
  generalize upd H2 A2 _ = H4 at hA2 D4 frA ⊢
  clear sA2 nA2 hW w1 w2 lm bm D2 kp lneW sW nW hC l9 b9 sHC DC
  refine ⟨_, rfl, 3, rfl, by decide, by decide, fun W nW => ?_⟩
  have lneW := D4.lne nW
  have sW := same_upd (o := .lst []) nW
  refine lc_range (lo := 0) (n := 3) (fun j H2 => Gr p l W H4 (n + 6) (2 * j) j H2) ⟨[], upd_same, lneW.1, lneW.2, rfl, (fun x h => nomatch h), (by rw [show n + 6 + ((2 * 0 : Nat) : Int) = n + ((6 : Nat) : Int) by omega]; exact D4.same sW), fun b o h1 h2 h => sW b o h⟩ ?_ ?_
  · rintro j H2 hj ⟨ms, hW, w1, w2, lm, bm, D2, kp⟩
    refine ⟨rfl, ?_⟩
    unfold tYes
    refine iteT ?_
    refine ⟨_, rfl, _, _, rfl, rfl, ⟨by decide, by decide, by decide⟩, p, l, n + 6 + ((2 * j : Nat) : Int), _, rfl, D2, by omega, by omega, by decide, by decide, fun r H3 r0 r1 f3 D3 => ?_⟩
    have r1 : r < 1000000000 := r1
    refine ⟨_, rfl, _, _, rfl, rfl, ⟨by decide, by decide, by decide⟩, _, _, rfl, rfl, ⟨by decide, by decide, by decide⟩, (by show 3 ≤ sizeLine; decide), fun L nL => ?_⟩
    have sL := same_upd (o := .lst [.int 1, .int (10 ^ Int.toNat 8), .int (10 ^ Int.toNat 20)]) nL
    have lne := D3.lne nL
    refine ⟨p, l, L, _, _, rfl, D3.same sL, by omega, by omega, upd_same, lne.1, lne.2, (by show 0 < 3; decide), (by show 3 ≤ 1000; decide), fun x H5 hx f5 D5 => ?_⟩
    obtain ⟨i, rfl, i0, i1⟩ : ∃ i, x = .int i ∧ 0 ≤ i ∧ i ≤ 100000000000000000000 := by
      simp only [List.mem_cons, List.not_mem_nil, or_false] at hx
      rcases hx with rfl | rfl | rfl
      · exact ⟨_, rfl, by decide, by decide⟩
      · exact ⟨_, rfl, by decide, by decide⟩
      · exact ⟨_, rfl, by decide, by decide⟩
    have m0 : r * i ≤ 1000000000 * 100000000000000000000 := Int.mul_le_mul (by omega) i1 i0 (by decide)
    have m1 : 0 ≤ r * i := Int.mul_nonneg r0 i0
    refine ⟨_, _, rfl, rfl, .inl ⟨by omega, by omega⟩, _, f5 _ _ w1 w2 (sL _ _ (f3 _ _ w1 w2 hW)), ?_, ms ++ [r * i], ?_, w1, w2, by rw [List.length_append, lm]; rfl, fun x hx => ?_, up0 (y := .non) (by rw [show n + 6 + ((2 * (j + 1) : Nat) : Int) = n + 6 + ((2 * j : Nat) : Int) + 1 + 1 by omega]; exact D5) w1 w2, fun b o h1 h2 h => ?_⟩
    · rw [List.length_map, lm]
      exact Nat.lt_of_le_of_lt (show j ≤ 20000 by omega) (by decide)
    · rw [upd_same, List.map_append]
      rfl
    · rcases List.mem_append.mp hx with h | h
      · exact bm x h
      · rw [List.mem_singleton.mp h]
        omega
    · rw [upd_ne (ne_of_none h nW)]
      exact f5 b o h1 h2 (sL b o (f3 b o h1 h2 (kp b o h1 h2 h)))
  rintro H2 ⟨ms, hW, w1, w2, lm, bm, D2, kp⟩
  refine ⟨A2, W, _, _, rfl, rfl, kp _ _ lneA2.1 lneA2.2 hA2, hW, (by rw [List.length_map, List.length_map]; exact Nat.le_trans (show ns8.length + ms.length ≤ 30 by omega) (by decide)), fun q nq => ?_⟩
  have sq := same_upd (o := .lst (ns8.map V.int ++ ms.map V.int)) nq
  have lq := D2.lne nq
  refine k _ q _ (ns8 ++ ms) (fun b o h1 h2 h => sq b o (kp b o h1 h2 (frA b o h1 h2 h))) (D2.same sq) (by omega) (by omega) ?_ lq.1 lq.2 ?_ fun x hx => ?_
  · rw [upd_same, List.map_append]
  · rw [List.length_append]
    omega
  · rcases List.mem_append.mp hx with h | h
    · exact b8 x h
    · exact bm x h
end
end Sm

set_option linter.all false
set_option maxHeartbeats 4000000
namespace Sm
/-- a shortest tuple is no longer than any other of the same values -/
theorem short_len {T T2 : List Int} {p p2 : Nat} {r r2 : Int} (s : Short T p r) (o2 : RuleOk T2 p2 r2) (h : ∀ x, vl T p r x = vl T2 p2 r2 x) : T.length ≤ T2.length := by
  have o := s.ok
  have p0 := o.p0
  have p1 := o.p1
  have q0 := o2.p0
  have q1 := o2.p1
  have g := short_le s o2 h
  have hd : p ≤ p2 := Nat.le_of_dvd q0 (by
    have := Nat.gcd_dvd_right p p2
    rwa [g] at this)
  rcases Nat.lt_or_ge T2.length T.length with q | q
  · exfalso
    rcases s.start with e | e
    · omega
    · have far : ∀ x, T.length - p ≤ x → vl T2 p2 r2 (x + p) = vl T2 p2 r2 x + r := fun x hx => by
        rw [← h, ← h]
        exact vl_add p0 p1 hx
      by_cases z : p = T.length
      · omega
      · have := rep_down o2 far (x := T.length - p - 1) (by omega)
        rw [← h, ← h, show T.length - p - 1 + p = T.length - 1 by omega, vl_lt (x := T.length - p - 1) (by omega)] at this
        exact e this
  · exact q
section
variable {T T1 T2 Tc : List Int} {p p1 p2 pc : Nat} {r r1 r2 rc : Int}
/-- the inverse's inverse -/
theorem lf_inv (o : RuleOk T p r) (r0 : 0 < r) (x : Nat) : lf (invT T p r) r.toNat (p : Int) x = if x = 0 then 0 else (vl T p r (x - 1) + 1).toNat := by
  obtain ⟨oi, hv⟩ := inv_ok o r0
  have p0 : (0 : Int) < (p : Int) := by have := o.p0; omega
  have key : ∀ y, lf (invT T p r) r.toNat (p : Int) x ≤ y ↔ x ≤ lf T p r y := fun y => by
    rw [lf_le oi p0, hv]
    omega
  split
  · rename_i h
    have := (key 0).mpr (by omega)
    omega
  · rename_i h
    have n := o.pos (x - 1)
    have a : lf (invT T p r) r.toNat (p : Int) x ≤ (vl T p r (x - 1) + 1).toNat := by
      rw [key]
      rcases Nat.lt_or_ge (lf T p r (vl T p r (x - 1) + 1).toNat) x with q | q
      · have : lf T p r (vl T p r (x - 1) + 1).toNat ≤ x - 1 := by omega
        rw [lf_le o r0] at this
        omega
      · exact q
    have b : ¬ lf (invT T p r) r.toNat (p : Int) x ≤ (vl T p r (x - 1)).toNat := by
      rw [key]
      intro q
      have : lf T p r (vl T p r (x - 1)).toNat ≤ x - 1 := by
        rw [lf_le o r0]
        omega
      omega
    omega
/-- the inverse of one rule behind another -/
theorem lf_thn (o1 : RuleOk T1 p1 r1) (o2 : RuleOk T2 p2 r2) (oc : RuleOk Tc pc rc) (r10 : 0 < r1) (r20 : 0 < r2) (rc0 : 0 < rc) (hv : ∀ x, vl Tc pc rc x = thn T1 p1 r1 T2 p2 r2 x) (y : Nat) : lf Tc pc rc y = lf T1 p1 r1 (lf T2 p2 r2 y) := by
  have key : ∀ x, lf Tc pc rc y ≤ x ↔ lf T1 p1 r1 (lf T2 p2 r2 y) ≤ x := fun x => by
    have n := o1.pos x
    rw [lf_le oc rc0, hv, lf_le o1 r10]
    unfold thn
    rw [← lf_le o2 r20]
    omega
  have a := (key _).mp (Nat.le_refl _)
  have b := (key _).mpr (Nat.le_refl _)
  omega
theorem thn_rises (o1 : RuleOk T1 p1 r1) (o2 : RuleOk T2 p2 r2) (oc : RuleOk Tc pc rc) (r10 : 0 < r1) (r20 : 0 < r2) (hv : ∀ x, vl Tc pc rc x = thn T1 p1 r1 T2 p2 r2 x) : 0 < rc := by
  have rc0 := oc.r0
  by_cases z : rc = 0
  · exfalso
    obtain ⟨B, hB⟩ : ∃ B, B = T1.length + T2.length * p1 + Tc.length := ⟨_, rfl⟩
    have reach : ((T2.length - p2 : Nat) : Int) ≤ vl T1 p1 r1 B := by
      have a := vl_addk o1.p0 o1.p1 (r := r1) (x := T1.length) (by omega) T2.length
      have b := o1.le (show T1.length + T2.length * p1 ≤ B by omega)
      have c := o1.pos T1.length
      have d : (T2.length : Int) * 1 ≤ (T2.length : Int) * r1 := Int.mul_le_mul_of_nonneg_left (by omega) (by omega)
      omega
    have t := thn_turn (B := B) (a := p2) (b := r1.toNat) o1 o2 (by omega) (by rw [Int.toNat_of_nonneg (by omega), Int.mul_comm]) (.inr reach) B (Nat.le_refl _)
    have u := vl_addk oc.p0 oc.p1 (r := rc) (x := B) (by omega) (p2 * p1)
    have m : B + p2 * p1 ≤ B + p2 * p1 * pc := by
      have := Nat.le_mul_of_pos_right (p2 * p1) oc.p0
      omega
    have w := oc.le m
    rw [u, hv, hv, t] at w
    rw [z, Int.mul_zero, Int.add_zero] at w
    have : 0 < ((r1.toNat : Nat) : Int) * r2 := Int.mul_pos (by omega) r20
    omega
  · omega
/-- the rule behind its inverse, the inverse behind the rule -/
theorem over_ge (o : RuleOk T p r) (r0 : 0 < r) (y : Nat) : (y : Int) ≤ thn (invT T p r) r.toNat (p : Int) T p r y := by
  unfold thn
  rw [(inv_ok o r0).2, Int.toNat_natCast]
  exact (lf_sp o r0 y).1
theorem under_le (o : RuleOk T p r) (r0 : 0 < r) (x : Nat) : thn T p r (invT T p r) r.toNat (p : Int) x ≤ (x : Int) := by
  unfold thn
  rw [(inv_ok o r0).2]
  have n := o.pos x
  have : lf T p r (vl T p r x).toNat ≤ x := by
    rw [lf_le o r0]
    omega
  omega
theorem plain_vl (x : Nat) : vl [0] 1 1 x = (x : Int) := by
  unfold vl
  split
  · rename_i h
    simp at h
    rw [h]
    rfl
  · rename_i h
    simp at h
    rw [Nat.div_one, Nat.mul_one, List.length_singleton, show x - (x - 1 + 1) = 0 by omega, show x - 1 + 1 = x by omega, Int.mul_one]
    simp
theorem plain_short : Short [0] 1 1 := by
  refine ⟨⟨by decide, by decide, by decide, fun i hi => ?_, fun i hi => ?_, by decide⟩, fun s c h1 h2 => by omega, .inl rfl⟩
  · have hi : i < 1 := hi
    rw [show i = 0 by omega]
    decide
  · have hi : i + 1 < 1 := hi
    omega
/-- how long the tables are -/
theorem inv_over (s : Short Tc pc rc) (o : RuleOk T p r) (r0 : 0 < r) (hv : ∀ x, vl Tc pc rc x = thn (invT T p r) r.toNat (p : Int) T p r x) : Tc.length ≤ invN T p r + r.toNat := by
  obtain ⟨oi, hi⟩ := inv_ok o r0
  have bl := invB_lo o
  have t := thn_turn (B := invN T p r) (a := 1) (b := 1) oi o (by rw [invT_len]; omega) (by omega) (.inr (by
    rw [hi]
    have := inv_begin o (x := lf T p r (invN T p r)) (by have := (lf_sp o r0 (invN T p r)).1; unfold invN at *; omega)
    omega))
  have t : ∀ x, invN T p r ≤ x → thn (invT T p r) r.toNat (p : Int) T p r (x + r.toNat) = thn (invT T p r) r.toNat (p : Int) T p r x + r := fun x hx => by
    have := t x hx
    rw [Nat.one_mul] at this
    rw [this]
    omega
  have ok := tab_ok (f := thn (invT T p r) r.toNat (p : Int) T p r) (B := invN T p r) (t := r.toNat) (R := r) (by omega) (by omega) t (thn_pos o) (thn_up oi o)
  have := short_len s ok fun x => by rw [hv, tab_vl (f := thn (invT T p r) r.toNat (p : Int) T p r) (by omega) t]
  rwa [tab_len] at this
theorem inv_under (s : Short Tc pc rc) (o : RuleOk T p r) (r0 : 0 < r) (hv : ∀ x, vl Tc pc rc x = thn T p r (invT T p r) r.toNat (p : Int) x) : Tc.length ≤ T.length + p := by
  obtain ⟨oi, hi⟩ := inv_ok o r0
  have p0 := o.p0
  have p1 := o.p1
  have t := thn_turn (B := T.length) (a := 1) (b := 1) o oi (by omega) (by omega) (.inr (by
    rw [invT_len]
    have a := vl_add p0 p1 (r := r) (x := T.length - p) (Nat.le_refl _)
    rw [show T.length - p + p = T.length by omega] at a
    have a2 : vl T p r (T.length - p) = T.getD (T.length - p) 0 := vl_lt (by omega)
    have wrap := o.wrap
    have : invB T p r < vl T p r T.length := by
      unfold invB
      split
      · have := o.row (show T.length - p - 1 ≤ T.length - p by omega) (by omega)
        omega
      · have := o.pos T.length
        have g := o.nn (T.length - p) (by omega)
        omega
    have nn := o.pos T.length
    unfold invN
    omega))
  have t : ∀ x, T.length ≤ x → thn T p r (invT T p r) r.toNat (p : Int) (x + p) = thn T p r (invT T p r) r.toNat (p : Int) x + (p : Int) := fun x hx => by
    have := t x hx
    rw [Nat.one_mul] at this
    rw [this]
    omega
  have ok := tab_ok (f := thn T p r (invT T p r) r.toNat (p : Int)) (B := T.length) (t := p) (R := (p : Int)) p0 (by omega) t (thn_pos oi) (thn_up o oi)
  have := short_len s ok fun x => by rw [hv, tab_vl (f := thn T p r (invT T p r) r.toNat (p : Int)) p0 t]
  rwa [tab_len] at this
theorem thn_len (s : Short Tc pc rc) (o1 : RuleOk T1 p1 r1) (o2 : RuleOk T2 p2 r2) (r10 : 0 < r1) (hv : ∀ x, vl Tc pc rc x = thn T1 p1 r1 T2 p2 r2 x) : Tc.length ≤ T1.length + T2.length * p1 + p2 * p1 := by
  have reach : ((T2.length - p2 : Nat) : Int) ≤ vl T1 p1 r1 (T1.length + T2.length * p1) := by
    have a := vl_addk o1.p0 o1.p1 (r := r1) (x := T1.length) (by omega) T2.length
    have c := o1.pos T1.length
    have d : (T2.length : Int) * 1 ≤ (T2.length : Int) * r1 := Int.mul_le_mul_of_nonneg_left (by omega) (by omega)
    omega
  have t := thn_turn (B := T1.length + T2.length * p1) (a := p2) (b := r1.toNat) o1 o2 (by omega) (by rw [Int.toNat_of_nonneg (by omega), Int.mul_comm]) (.inr reach)
  have t0 : 0 < p2 * p1 := Nat.mul_pos o2.p0 o1.p0
  have R0 : 0 ≤ ((r1.toNat : Nat) : Int) * r2 := Int.mul_nonneg (by omega) o2.r0
  have ok := tab_ok (f := thn T1 p1 r1 T2 p2 r2) t0 R0 t (thn_pos o2) (thn_up o1 o2)
  have := short_len s ok fun x => by rw [hv, tab_vl (f := thn T1 p1 r1 T2 p2 r2) t0 t]
  rwa [tab_len] at this
theorem lf_small (o : RuleOk T p r) (r0 : 0 < r) (y : Nat) : lf T p r y ≤ T.length + y * p := by
  rw [lf_le o r0]
  have a := vl_addk o.p0 o.p1 (r := r) (x := T.length) (by omega) y
  have c := o.pos T.length
  have d : (y : Int) * 1 ≤ (y : Int) * r := Int.mul_le_mul_of_nonneg_left (by omega) (by omega)
  rw [a]
  omega
end
end Sm

set_option linter.all false
set_option maxHeartbeats 4000000
namespace Sm
section
variable {T T1 T2 Tc : List Int} {p p1 p2 pc : Nat} {r r1 r2 rc : Int}
theorem invT_at {i : Nat} (h : i < invN T p r + r.toNat) : (invT T p r).getD i 0 = (lf T p r i : Int) := by
  unfold invT
  exact tab_getD (f := fun y => (lf T p r y : Int)) h
theorem invB_hi (o : RuleOk T p r) : invB T p r ≤ T.getD (T.length - 1) 0 := by
  have p0 := o.p0
  have p1 := o.p1
  have r0 := o.r0
  have n := o.nn (T.length - 1) (by omega)
  unfold invB
  split
  · have := o.le (show T.length - p - 1 ≤ T.length - 1 by omega)
    rw [vl_lt (by omega), vl_lt (by omega)] at this
    omega
  · omega
/-- how long the inverse's inverse is -/
theorem inv_inv (o : RuleOk T p r) (r0 : 0 < r) : invN (invT T p r) r.toNat (p : Int) ≤ T.length := by
  have p0 := o.p0
  have p1 := o.p1
  have hi := invB_hi o
  have lo := invB_lo o
  have ln : (invT T p r).length = invN T p r + r.toNat := invT_len
  have nB : (invN T p r : Int) = invB T p r + 1 := by unfold invN; omega
  have b : lf T p r (invN T p r + r.toNat - 1) ≤ T.length - 1 + p := by
    rw [lf_le o r0, vl_add p0 p1 (by omega), vl_lt (by omega)]
    omega
  have e : invB (invT T p r) r.toNat (p : Int) ≤ (T.length : Int) - 1 := by
    unfold invB
    rw [ln, invT_at (i := invN T p r + r.toNat - 1) (by omega)]
    split
    · have a : lf T p r (invN T p r - 1) ≤ T.length - 1 := by
        rw [lf_le o r0, vl_lt (by omega)]
        omega
      rw [show invN T p r + r.toNat - r.toNat - 1 = invN T p r - 1 by omega, invT_at (i := invN T p r - 1) (by omega)]
      omega
    · omega
  show (invB (invT T p r) r.toNat (p : Int) + 1).toNat ≤ T.length
  omega
theorem thn_reach (o1 : RuleOk T1 p1 r1) (o2 : RuleOk T2 p2 r2) (r10 : 0 < r1) (oc : RuleOk Tc pc rc) (hv : ∀ x, vl Tc pc rc x = thn T1 p1 r1 T2 p2 r2 x) : rc ≤ thn T1 p1 r1 T2 p2 r2 Tc.length := by
  have a := vl_add oc.p0 oc.p1 (r := rc) (x := Tc.length - pc) (Nat.le_refl _)
  have c := oc.p1
  rw [show Tc.length - pc + pc = Tc.length by omega, hv] at a
  have b := oc.pos (Tc.length - pc)
  omega
end
end Sm

set_option Elab.async false
set_option linter.all false
set_option maxRecDepth 100000
set_option maxHeartbeats 16000000
namespace Sm
open PySem PySem.Spec PyProof.Rows L2
open C8 (pss_cut tCut)
/-! ### where nothing can raise -/
def sp_best_rule (_ : PySem.W.Frag) : Sp := fun vs H Q _ => ∃ (d1 d2 : Addr) (T1 T2 T : List Int) (p1 p2 p : Nat) (r1 r2 r : Int), vs = [.ref d1, .ref d2] ∧ RuleAt H d1 T1 p1 r1 ∧ RuleAt H d2 T2 p2 r2 ∧ Short T1 p1 r1 ∧ Short T2 p2 r2 ∧ RS 10000000000000 T1 p1 r1 ∧ RS 10000000000000 T2 p2 r2 ∧
  Short T p r ∧ (∀ x, vl T p r x = max (vl T1 p1 r1 x) (vl T2 p2 r2 x)) ∧ T.length ≤ 5000 ∧ ∀ H' d, Same H H' → RuleAt H' d T p r → Q (.ref d) H'
theorem ok_best0 {P : Program} {w : World} {K : PySem.W.Frag} {mg : Str → Option Value} {base : Heap} {cTooLong : Addr} {k : Nat} (C : CalX P w K mg base "best_rule" ["one", "other"] k (sp_best cTooLong)) : Cal P w K mg base "best_rule" ["one", "other"] k (sp_best_rule K) := by
  obtain ⟨f, fd, F, m, kp, b⟩ := C
  refine ⟨f, fd, ⟨fun vs H Q E h => ?_, fun A outer s H args us vs Q E hr e0 hb hv h => ?_⟩, m, kp, b⟩
  · obtain ⟨a, c, _, _, _, _, _, _, _, _, _, rfl, _⟩ := h
    rfl
  obtain ⟨d1, d2, T1, T2, T0, p1, p2, p0, r1, r2, r0, rfl, R1, R2, s1, s2, b1, b2, s0, hv0, lim, k⟩ := h
  refine codeAny_mono (F.run A outer s H args us _ Q E0 hr e0 hb hv ⟨d1, d2, T1, T2, p1, p2, r1, r2, rfl, R1, R2, s1, s2, b1, b2, fun H' d' T' p' r' s R _ sh hv l => ?_, fun n hn h H' s => ?_⟩) ?_
  · obtain ⟨rfl, rfl, rfl⟩ := short_one sh s0 fun x => by rw [hv, hv0]
    exact k H' d' s R
  · have h1 := h T0 p0 r0 s0 hv0
    omega
  rintro (e | fl) s' got
  · obtain ⟨_, _, _, _, _, _, _, _, _, _, _, _, hE⟩ := got
    exact hE.elim
  · match fl, got with
    | .next, got => exact got.elim
    | .brk, got => exact got.elim
    | .cont, got => exact got.elim
    | .ret u, got => exact got
def sp_then_rule (_ : PySem.W.Frag) : Sp := fun vs H Q _ => ∃ (d1 d2 : Addr) (T1 T2 : List Int) (p1 p2 : Nat) (r1 r2 : Int), vs = [.ref d1, .ref d2] ∧ RuleAt H d1 T1 p1 r1 ∧ RuleAt H d2 T2 p2 r2 ∧ RuleOk T1 p1 r1 ∧ RuleOk T2 p2 r2 ∧ RS 100000 T1 p1 r1 ∧ RS 100000 T2 p2 r2 ∧
  (∀ T p r, Short T p r → (∀ x, vl T p r x = thn T1 p1 r1 T2 p2 r2 x) → T.length ≤ 5000) ∧
  ∀ H' d T p r, Same H H' → RuleAt H' d T p r → Short T p r → (∀ x, vl T p r x = thn T1 p1 r1 T2 p2 r2 x) → Q (.ref d) H'
theorem ok_then0 {P : Program} {w : World} {K : PySem.W.Frag} {mg : Str → Option Value} {base : Heap} {cTooLong : Addr} {k : Nat} (C : CalX P w K mg base "then_rule" ["first", "second"] k (sp_then cTooLong)) : Cal P w K mg base "then_rule" ["first", "second"] k (sp_then_rule K) := by
  obtain ⟨f, fd, F, m, kp, b⟩ := C
  refine ⟨f, fd, ⟨fun vs H Q E h => ?_, fun A outer s H args us vs Q E hr e0 hb hv h => ?_⟩, m, kp, b⟩
  · obtain ⟨a, c, _, _, _, _, _, _, rfl, _⟩ := h
    rfl
  obtain ⟨d1, d2, T1, T2, p1, p2, r1, r2, rfl, R1, R2, s1, s2, b1, b2, lim, k⟩ := h
  refine codeAny_mono (F.run A outer s H args us _ Q E0 hr e0 hb hv ⟨d1, d2, T1, T2, p1, p2, r1, r2, rfl, R1, R2, s1, s2, b1, b2, fun H' T' p' r' s rb sh hv => ⟨fun d l R => k H' d T' p' r' s R sh hv, fun l => ?_⟩⟩) ?_
  · have := lim T' p' r' sh hv
    omega
  rintro (e | fl) s' got
  · obtain ⟨_, _, _, _, _, _, _, _, _, _, _, _, hE⟩ := got
    exact hE.elim
  · match fl, got with
    | .next, got => exact got.elim
    | .brk, got => exact got.elim
    | .cont, got => exact got.elim
    | .ret u, got => exact got
def sp_inverse_rule (_ : PySem.W.Frag) : Sp := fun vs H Q _ => ∃ (d : Addr) (T : List Int) (p : Nat) (r : Int), vs = [.ref d] ∧ RuleAt H d T p r ∧ RuleOk T p r ∧ 0 < r ∧ RS 10000000000000 T p r ∧ invN T p r + r.toNat ≤ 5000 ∧ ∀ H' d', Same H H' → RuleAt H' d' (invT T p r) r.toNat (p : Int) → Q (.ref d') H'
theorem ok_inv0 {P : Program} {w : World} {K : PySem.W.Frag} {mg : Str → Option Value} {base : Heap} {cTooLong : Addr} {k : Nat} (C : CalX P w K mg base "inverse_rule" ["rule"] k (sp_inv cTooLong)) : Cal P w K mg base "inverse_rule" ["rule"] k (sp_inverse_rule K) := by
  obtain ⟨f, fd, F, m, kp, b⟩ := C
  refine ⟨f, fd, ⟨fun vs H Q E h => ?_, fun A outer s H args us vs Q E hr e0 hb hv h => ?_⟩, m, kp, b⟩
  · obtain ⟨a, _, _, _, rfl, _⟩ := h
    rfl
  obtain ⟨d1, T1, p1, r1, rfl, R1, s1, r0, b1, lim, k⟩ := h
  refine codeAny_mono (F.run A outer s H args us _ Q E0 hr e0 hb hv ⟨d1, T1, p1, r1, rfl, R1, s1, r0, b1, fun _ H' d' s R => k H' d' s R, fun big => ?_⟩) ?_
  · omega
  rintro (e | fl) s' got
  · obtain ⟨_, _, _, _, _, _, _, _, _, _, _, _, hE⟩ := got
    exact hE.elim
  · match fl, got with
    | .next, got => exact got.elim
    | .brk, got => exact got.elim
    | .cont, got => exact got.elim
    | .ret u, got => exact got
/-- a list made of a list of ints -/
theorem lc_ints {K : PySem.W.Frag} {i j : Nat} {a : Addr} {te : TE} {vs : List Nat} {σ : L2.St} {H : Hp} {Q : VK} {ns : List Int} (g : Int → Int) (hi : σ[i]? = some (some (.ref a))) (hS : H a = some (.lst (ns.map V.int))) (ln : ns.length ≤ 20000) (hw : ∀ x : V, wipe ((wipe σ vs).set j (some x)) vs = wipe σ vs)
    (he : ∀ n ∈ ns, ∀ (H' : Hp) (Q' : VK), Same H H' → Q' (.int (g n)) H' → te ((wipe σ vs).set j (some (.int n))) H' Q') (hd : ∀ H' D, Same H H' → H D = none → H' D = some (.lst ((ns.map g).map V.int)) → Q (.ref D) H') : tLc (iList K (tVar i)) (gName j) tYes te vs σ H Q := by
  refine ⟨_, hi, a, rfl, ⟨_, SqL.of hS⟩, fun D nD => ?_⟩
  refine lc_list (K := K) (a := a) (xs := ns.map V.int) (fun k H' => Same H H' ∧ H' D = some (.lst (((ns.take k).map g).map V.int))) ⟨same_upd nD, upd_same⟩ (fun _ H' _ h => SqL.of (h.1 _ _ hS)) ?_ ?_
  · rintro k x H' hx ⟨s', hD⟩
    rw [List.getElem?_map] at hx
    cases e : ns[k]? with
    | none => rw [e] at hx; cases hx
    | some n =>
      rw [e] at hx
      have ex := (Option.some.inj hx).symm
      subst ex
      refine ⟨hw _, ?_⟩
      unfold tYes
      refine iteT ?_
      refine he n (List.mem_of_getElem? e) H' _ s' ⟨_, hD, ?_, fun b o e' => ?_, ?_⟩
      · rw [List.length_map, List.length_map, List.length_take]
        exact Nat.lt_of_le_of_lt (show min k ns.length ≤ 20000 by omega) (by decide)
      · rw [upd_ne (ne_of_none e' nD)]
        exact s' _ _ e'
      · rw [upd_same, List.take_add_one, e, List.map_append, List.map_append]
        rfl
  rintro H1 ⟨s1, hD⟩
  rw [List.length_map, List.take_length] at hD
  exact hd H1 D s1 nD hD
def sp_l_pair_right (_ : PySem.W.Frag) : Sp := fun vs H Q _ => ∃ (p l d e : Addr) (n : Int) (T : List Int) (pp : Nat) (r : Int), vs = [.ref p, .ref d, .ref e] ∧ Deck H p l n ∧ 0 ≤ n ∧ n ≤ 800000 ∧ RuleAt H d T pp r ∧ RuleOk T pp r ∧ 0 < r ∧ RB T pp r ∧ T.length ≤ 300 ∧ RuleAt H e (invT T pp r) r.toNat (pp : Int) ∧ RB (invT T pp r) r.toNat (pp : Int) ∧ (invT T pp r).length ≤ 5000 ∧
  ∀ H' n', Fr p l H H' → Deck H' p l n' → n ≤ n' → n' ≤ n + 40 → Q (.bl true) H'
def rD (T : List Int) (p : Nat) (r : Int) : PyData := .tuple [.tuple (T.map PyData.int), .int (p : Int), .int r]
theorem RuleAt.dp {K : PySem.W.Frag} {H : Hp} {d : Addr} {T : List Int} {p : Nat} {r : Int} (R : RuleAt H d T p r) : Dp K H (.ref d) (rD T p r) := by
  obtain ⟨t, h1, h2⟩ := R
  exact .tup (SqT.of h1) (.cons (.tup (SqT.of h2) (dp_ints T)) (.cons (.int _) (.cons (.int _) .nil)))
theorem rD_shaped (T : List Int) (p : Nat) (r : Int) : SeqAt.shaped (rD T p r) = true := by
  have d := depth_ints T
  have e : (rD T p r).depth ≤ 64 := by
    unfold rD
    simp only [PyData.depth, PyData.depthAll]
    omega
  have l : (rD T p r).canLay0 = true := by
    unfold rD
    simp only [PyData.canLay0, PyData.canLayAll0, lay_list, Bool.and_self]
  unfold SeqAt.shaped
  rw [l, decide_eq_true e]
  rfl
theorem rD_eqv (T : List Int) (p : Nat) (r : Int) : PyData.eqv (rD T p r) (rD T p r) = true := SeqAt.eqv_refl _ (SeqAt.canLay_of_shaped (rD_shaped T p r))
/-- how great one rule behind another grows -/
theorem thn_rs {T1 T2 Tc : List Int} {p1 p2 pc : Nat} {r1 r2 rc : Int} (o1 : RuleOk T1 p1 r1) (o2 : RuleOk T2 p2 r2) (s1 : RS 100000 T1 p1 r1) (s2 : RS 100000 T2 p2 r2) (r10 : 0 < r1) (oc : RuleOk Tc pc rc) (hv : ∀ x, vl Tc pc rc x = thn T1 p1 r1 T2 p2 r2 x) (hl : Tc.length ≤ 300) (hp : pc ≤ 40) : RS 10000000000000 Tc pc rc := by
  have top : ∀ x, x ≤ 300 → thn T1 p1 r1 T2 p2 r2 x ≤ 10000000000000 := fun x hx => by
    have a := RS.vl o1 s1 (by decide) x
    have b := RS.vl o2 s2 (by decide) (vl T1 p1 r1 x).toNat
    have n := o1.pos x
    unfold thn
    generalize vl T2 p2 r2 (vl T1 p1 r1 x).toNat = v at *
    omega
  refine ⟨hl, hp, ?_, fun i hi => ?_⟩
  · have a := thn_reach o1 o2 r10 oc hv
    have b := top Tc.length hl
    omega
  · have := top i (by omega)
    rw [← hv, vl_lt hi] at this
    exact this
/-- the inverse of a little rule, where it is little -/
theorem inv_rs {T : List Int} {p : Nat} {r : Int} (o : RuleOk T p r) (r0 : 0 < r) (s : RS 3000 T p r) (hl : T.length ≤ 40) (h1 : (invT T p r).length ≤ 200) (h2 : r.toNat ≤ 40) : RS 100000 (invT T p r) r.toNat (p : Int) := by
  have t := s.turn
  refine ⟨by omega, h2, by omega, fun i hi => ?_⟩
  rw [invT_at (by rw [← invT_len]; exact hi)]
  have a := lf_small o r0 i
  have b : i * p ≤ 200 * 40 := Nat.mul_le_mul (by omega) t
  omega
def sp_l_back_right (_ : PySem.W.Frag) : Sp := fun vs H Q _ => ∃ (p l d e : Addr) (n : Int) (T : List Int) (pp : Nat) (r : Int), vs = [.ref p, .ref d, .ref e] ∧ Deck H p l n ∧ 0 ≤ n ∧ n ≤ 800000 ∧ RuleAt H d T pp r ∧ Short T pp r ∧ 0 < r ∧ RS 3000 T pp r ∧ T.length ≤ 40 ∧ RuleAt H e (invT T pp r) r.toNat (pp : Int) ∧ (invT T pp r).length ≤ 200 ∧ r.toNat ≤ 40 ∧
  ∀ H' n', Fr p l H H' → Deck H' p l n' → n ≤ n' → n' ≤ n + 20 → Q (.bl true) H'
theorem same_v {A B : Prop} {u v : V} (h : u = v) (b : B) : (if (!decide (u = v)) = true then A else B) := by
  rw [decide_eq_true h]
  exact b
section
variable {P : Program} {w : World} {K : PySem.W.Frag} {mg : Str → Option Value} {base : Heap} {cTooLong : Addr}
abbrev s_l_pair_right : Stmt := topS 36
abbrev N_l_pair_right : List Str := ["_law_deck_here", "_law_rule_here", "_law_other", "_law_amounts", "_law_wanted", "_law_y", "_law_least_here", "_law_x"]
theorem sc_l_pair_right : FnScope N_l_pair_right ["_law_deck_here", "_law_rule_here", "_law_other"] (defScope s_l_pair_right) := ⟨rfl, rfl, rfl, by decide +kernel, rfl, by decide +kernel, by decide +kernel⟩
theorem ok_l_pair_right (T : Txt mg) (D : Df K mg "_law_pair_right" s_l_pair_right ["_law_deck_here", "_law_rule_here", "_law_other"]) (C_value_of : Cal P w K mg base "value_of" ["rule", "x"] 1 (sp_value_of K)) (C_l_far : Cal P w K mg base "_law_far" ["_law_deck_here", "_law_many"] 3 (sp_l_far K)) : Cal P w K mg base "_law_pair_right" ["_law_deck_here", "_law_rule_here", "_law_other"] 4 (sp_l_pair_right K) := by
  obtain ⟨f_value_of, fd_value_of, G_value_of, m_value_of, k_value_of, b_value_of⟩ := C_value_of
  obtain ⟨f_l_far, fd_l_far, G_l_far, m_l_far, k_l_far, b_l_far⟩ := C_l_far
  refine D.cal sc_l_pair_right (fun vs H Q E h => ?_) (fun f cdv A outer s H vs Q E hr h => ?_)
  · obtain ⟨p, l, d, e, n, T1, p1, r1, rfl, _⟩ := h
    rfl
  obtain ⟨p, l, d, e, n, T1, p1, r1, rfl, D, n0, n1, R1, o1, r0, rb1, l1, R2, rb2, l2, k⟩ := h
  refine ⟨_, (pss_cons (ps_par (i := 3) (j := 4) (by rfl) sc_l_pair_right.nd rfl rfl (by decide) rfl rfl (pa_cons (pe_call G_l_far (hr.mono (by decide)) (by rfl) m_l_far k_l_far b_l_far .nil pass0 (pa_cons (pv 0) (pa_cons (pe_callB call_len_seq (by rfl) T.n_len (by decide +kernel) (pa_cons (pe_ix ix_tup (pv 1) pe_int (fun _ _ => rfl)) pa_nil)) pa_nil))) (pa_cons (pe_call G_l_far (hr.mono (by decide)) (by rfl) m_l_far k_l_far b_l_far .nil pass0 (pa_cons (pv 0) (pa_cons (pe_callB call_len_seq (by rfl) T.n_len (by decide +kernel) (pa_cons (pe_ix ix_tup (pv 2) pe_int (fun _ _ => rfl)) pa_nil)) pa_nil))) pa_nil)) (by rfl))
    (pss_cons (ps_set (i := 4) sc_l_pair_right.nd rfl (Or.inl rfl) (pe_op op_cat (pe_op op_cat (pv 4) (pe_lc (own := [("_law_x", 7)]) (g := gName 7) (tt := tYes) rfl sc_l_pair_right.nd (pi_list (pv 3)) (blkOk_by (own := [("_law_x", 7)]) (N := N_l_pair_right) (sc := defScope s_l_pair_right) (by decide +kernel)) (fun _ _ _ _ _ => pg_name (i := 7) sc_l_pair_right.nd rfl (Or.inl rfl)) (fun _ _ _ _ _ => pts_nil) (fun _ _ _ _ _ => (pe_call G_value_of (hr.mono (by decide)) (by rfl) m_value_of k_value_of b_value_of .nil pass0 (pa_cons (pv 1) (pa_cons (pv 7) pa_nil)))))) (pe_lc (own := [("_law_x", 7)]) (g := gName 7) (tt := tYes) rfl sc_l_pair_right.nd (pi_list (pv 3)) (blkOk_by (own := [("_law_x", 7)]) (N := N_l_pair_right) (sc := defScope s_l_pair_right) (by decide +kernel)) (fun _ _ _ _ _ => pg_name (i := 7) sc_l_pair_right.nd rfl (Or.inl rfl)) (fun _ _ _ _ _ => pts_nil) (fun _ _ _ _ _ => (pe_op op_add (pe_call G_value_of (hr.mono (by decide)) (by rfl) m_value_of k_value_of b_value_of .nil pass0 (pa_cons (pv 1) (pa_cons (pv 7) pa_nil))) pe_int)))))
    (pss_cons (ps_set (i := 3) sc_l_pair_right.nd rfl (Or.inl rfl) (pe_op op_cat (pv 3) (pe_lc (own := [("_law_y", 5)]) (g := gName 5) (tt := tYes) rfl sc_l_pair_right.nd (pi_list (pv 4)) (blkOk_by (own := [("_law_y", 5)]) (N := N_l_pair_right) (sc := defScope s_l_pair_right) (by decide +kernel)) (fun _ _ _ _ _ => pg_name (i := 5) sc_l_pair_right.nd rfl (Or.inl rfl)) (fun _ _ _ _ _ => pts_nil) (fun _ _ _ _ _ => (pe_call G_value_of (hr.mono (by decide)) (by rfl) m_value_of k_value_of b_value_of .nil pass0 (pa_cons (pv 2) (pa_cons (pv 5) pa_nil)))))))
    (pss_cons (ps_set (i := 3) sc_l_pair_right.nd rfl (Or.inl rfl) (pe_op op_cat (pv 3) (pe_lc (own := [("_law_x", 7)]) (g := gName 7) (tt := tYes) rfl sc_l_pair_right.nd (pi_list (pv 3)) (blkOk_by (own := [("_law_x", 7)]) (N := N_l_pair_right) (sc := defScope s_l_pair_right) (by decide +kernel)) (fun _ _ _ _ _ => pg_name (i := 7) sc_l_pair_right.nd rfl (Or.inl rfl)) (fun _ _ _ _ _ => pts_nil) (fun _ _ _ _ _ => (pe_callB (call_max2 rfl) (by rfl) T.n_max (by decide +kernel) (pa_cons pe_int (pa_cons (pe_op op_sub (pv 7) pe_int) pa_nil)))))))
    (pss_cons (ps_for PassesOwn.never rfl (pi_list (pv 4)) (pg_name (i := 5) sc_l_pair_right.nd rfl (Or.inl rfl))
      (pss_cons (ps_set (i := 6) sc_l_pair_right.nd rfl (Or.inl rfl) (pe_call G_value_of (hr.mono (by decide)) (by rfl) m_value_of k_value_of b_value_of .nil pass0 (pa_cons (pv 2) (pa_cons (pv 5) pa_nil))))
    (pss_one (ps_for PassesOwn.never rfl (pi_list (pv 3)) (pg_name (i := 7) sc_l_pair_right.nd rfl (Or.inl rfl))
      (pss_one (ps_if (pt_cmpR op_ne (pe_cmpR op_ge (pe_call G_value_of (hr.mono (by decide)) (by rfl) m_value_of k_value_of b_value_of .nil pass0 (pa_cons (pv 1) (pa_cons (pv 7) pa_nil))) (pv 5) (nomark _)) (pe_cmpR op_ge (pv 7) (pv 6) (nomark _)) (nomark _)) (pss_one (ps_ret pe_bl)) pss_nil))))))
    (pss_one (ps_ret pe_bl))))))), ?_⟩
  obtain ⟨o2, hv2⟩ := inv_ok o1 r0
  obtain ⟨t1, hd1, ht1⟩ := id R1
  obtain ⟨t2, hd2, ht2⟩ := id R2
  have pp0 := o1.p0
  have pp1 := o1.p1
  have q0 := o2.p0
  have q1 := o2.p1
  have ll1 := len_int T1
  have ll2 := len_int (invT T1 p1 r1)
  refine ⟨_, rfl, _, rfl, _, _, _, _, rfl, rfl, SqT.of hd1, atI_nat (j := 0) rfl, _, _, rfl, .inr (SqT.of ht1), p, l, n, _, rfl, D, n0, by omega, by omega, by omega, fun H1 A nA na f1 D1 m0 m1 hA A1 A2 la ba => ?_⟩
  refine ⟨_, rfl, _, rfl, _, _, _, _, rfl, rfl, SqT.of (f1.tup D hd2), atI_nat (j := 0) rfl, _, _, rfl, .inr (SqT.of (f1.tup D ht2)), p, l, nA, _, rfl, D1, by omega, by omega, by omega, by omega, fun H2 W nW nw f2 D2 m2 m3 hW W1 W2 lw bw => ?_⟩
  have hA := f2 _ _ A1 A2 hA
  have f := f1.trans f2
  have R1 := R1.fr f D
  have R2 := R2.fr f D
  clear hd1 ht1 hd2 ht2 f1 D1
  have nat : ∀ {x : Int}, 0 ≤ x → ∃ y : Nat, x = (y : Int) := fun {x} h => ⟨x.toNat, (Int.toNat_of_nonneg h).symm⟩
  have v1 : ∀ (x : Int), 0 ≤ vl T1 p1 r1 x.toNat := fun x => o1.pos _
  have v2 : ∀ (x : Int), 0 ≤ vl (invT T1 p1 r1) r1.toNat (p1 : Int) x.toNat := fun x => o2.pos _
  refine ⟨_, _, rfl, ?_⟩
  refine ⟨_, rfl, lc_ints (fun x => vl T1 p1 r1 x.toNat) rfl hA (by omega) (fun x => rfl) (fun x hx H' Q' s' q => ?_) (fun H3 U3 s3 nU3 hU3 => ?_)⟩
  · obtain ⟨y, rfl⟩ := nat (ba x hx).1
    exact ⟨_, rfl, _, rfl, d, T1, p1, r1, y, rfl, R1.same s', o1, rb1, q⟩
  refine ⟨W, U3, _, _, rfl, rfl, s3 _ _ hW, hU3, (by rw [List.length_map, List.length_map, List.length_map]; exact Nat.le_trans (show _ ≤ 1000 by omega) (by decide)), fun C3 nC3 => ?_⟩
  have c3 := same_upd (o := .lst (nw.map V.int ++ (na.map fun x => vl T1 p1 r1 x.toNat).map V.int)) nC3
  refine lc_ints (fun x => vl T1 p1 r1 x.toNat + 1) rfl ((s3.trans c3) _ _ hA) (by omega) (fun x => rfl) (fun x hx H' Q' s' q => ?_) (fun H4 U4 s4 nU4 hU4 => ?_)
  · obtain ⟨y, rfl⟩ := nat (ba x hx).1
    exact ⟨_, rfl, _, rfl, d, T1, p1, r1, y, rfl, ((R1.same s3).same c3).same s', o1, rb1, _, _, rfl, rfl, q⟩
  have hC3 : H4 C3 = some (.lst ((nw ++ (na.map fun x => vl T1 p1 r1 x.toNat)).map V.int)) := by
    rw [List.map_append]
    exact s4 _ _ upd_same
  refine ⟨C3, U4, _, _, rfl, rfl, hC3, hU4, (by rw [List.length_map, List.length_map, List.length_map, List.length_append, List.length_map]; exact Nat.le_trans (show _ ≤ 1000 by omega) (by decide)), fun C4 nC4 => ?_⟩
  have c4 := same_upd (o := .lst ((nw ++ (na.map fun x => vl T1 p1 r1 x.toNat)).map V.int ++ (na.map fun x => vl T1 p1 r1 x.toNat + 1).map V.int)) nC4
  obtain ⟨ws, hws⟩ : ∃ ws : List Int, ws = nw ++ (na.map fun x => vl T1 p1 r1 x.toNat) ++ na.map fun x => vl T1 p1 r1 x.toNat + 1 := ⟨_, rfl⟩
  have hC4 : upd H4 C4 (.lst ((nw ++ (na.map fun x => vl T1 p1 r1 x.toNat)).map V.int ++ (na.map fun x => vl T1 p1 r1 x.toNat + 1).map V.int)) C4 = some (.lst (ws.map V.int)) := by
    rw [upd_same, hws, ← List.map_append]
  have lws : ws.length ≤ 72 := by
    rw [hws, List.length_append, List.length_append, List.length_map, List.length_map]
    omega
  have bws : ∀ x ∈ ws, 0 ≤ x := fun x hx => by
    rw [hws] at hx
    rcases List.mem_append.mp hx with h | h
    · rcases List.mem_append.mp h with h | h
      · exact (bw x h).1
      · obtain ⟨y, _, rfl⟩ := List.mem_map.mp h
        exact v1 y
    · obtain ⟨y, _, rfl⟩ := List.mem_map.mp h
      have := v1 y
      omega
  have s := s3.trans (c3.trans (s4.trans c4))
  generalize upd H4 C4 _ = H5 at hC4 s ⊢
  clear hws hC3 c4 c3 nC4 nC3 nU4 hU4 s4 hU3 nU3 s3 hW
  have R1 := R1.same s
  have R2 := R2.same s
  have hA := s _ _ hA
  -- the other's values of what is wanted
  refine ⟨_, rfl, lc_ints (fun x => vl (invT T1 p1 r1) r1.toNat (p1 : Int) x.toNat) rfl hC4 (by omega) (fun x => rfl) (fun x hx H' Q' s' q => ?_) (fun H6 U6 s6 nU6 hU6 => ?_)⟩
  · obtain ⟨y, rfl⟩ := nat (bws x hx)
    exact ⟨_, rfl, _, rfl, e, invT T1 p1 r1, r1.toNat, (p1 : Int), y, rfl, R2.same s', o2, rb2, q⟩
  refine ⟨A, U6, _, _, rfl, rfl, s6 _ _ hA, hU6, (by rw [List.length_map, List.length_map, List.length_map]; exact Nat.le_trans (show _ ≤ 1000 by omega) (by decide)), fun C6 nC6 => ?_⟩
  have c6 := same_upd (o := .lst (na.map V.int ++ (ws.map fun x => vl (invT T1 p1 r1) r1.toNat (p1 : Int) x.toNat).map V.int)) nC6
  obtain ⟨as, has⟩ : ∃ as : List Int, as = na ++ (ws.map fun x => vl (invT T1 p1 r1) r1.toNat (p1 : Int) x.toNat) := ⟨_, rfl⟩
  have hC6 : upd H6 C6 (.lst (na.map V.int ++ (ws.map fun x => vl (invT T1 p1 r1) r1.toNat (p1 : Int) x.toNat).map V.int)) C6 = some (.lst (as.map V.int)) := by
    rw [upd_same, has, ← List.map_append]
  have las : as.length ≤ 100 := by
    rw [has, List.length_append, List.length_map]
    omega
  have bas : ∀ x ∈ as, 0 ≤ x := fun x hx => by
    rw [has] at hx
    rcases List.mem_append.mp hx with h | h
    · exact (ba x h).1
    · obtain ⟨y, _, rfl⟩ := List.mem_map.mp h
      exact v2 y
  have s7 := s6.trans c6
  generalize upd H6 C6 _ = H7 at hC6 s7 ⊢
  clear has c6 nC6 hU6 nU6 s6 hA
  have R1 := R1.same s7
  have R2 := R2.same s7
  have hC4 := s7 _ _ hC4
  have s := s.trans s7
  clear s7
  refine ⟨_, rfl, lc_ints (fun x => if x - 1 > 0 then x - 1 else 0) rfl hC6 (by omega) (fun x => rfl) (fun x hx H' Q' s' q => ?_) (fun H8 U8 s8 nU8 hU8 => ?_)⟩
  · exact ⟨_, rfl, _, _, rfl, rfl, _, _, rfl, q⟩
  refine ⟨C6, U8, _, _, rfl, rfl, s8 _ _ hC6, hU8, (by rw [List.length_map, List.length_map, List.length_map]; exact Nat.le_trans (show _ ≤ 1000 by omega) (by decide)), fun C8 nC8 => ?_⟩
  have c8 := same_upd (o := .lst (as.map V.int ++ (as.map fun x => if x - 1 > 0 then x - 1 else 0).map V.int)) nC8
  obtain ⟨xs, hxs⟩ : ∃ xs : List Int, xs = as ++ (as.map fun x => if x - 1 > 0 then x - 1 else 0) := ⟨_, rfl⟩
  have hC8 : upd H8 C8 (.lst (as.map V.int ++ (as.map fun x => if x - 1 > 0 then x - 1 else 0).map V.int)) C8 = some (.lst (xs.map V.int)) := by
    rw [upd_same, hxs, ← List.map_append]
  have bxs : ∀ x ∈ xs, 0 ≤ x := fun x hx => by
    rw [hxs] at hx
    rcases List.mem_append.mp hx with h | h
    · exact bas x h
    · obtain ⟨y, _, rfl⟩ := List.mem_map.mp h
      split <;> omega
  have s9 := s8.trans c8
  generalize upd H8 C8 _ = H9 at hC8 s9 ⊢
  clear hxs c8 nC8 hU8 nU8 s8 hC6
  have R1 := R1.same s9
  have R2 := R2.same s9
  have hC4 := s9 _ _ hC4
  have s := s.trans s9
  clear s9
  have D9 := D2.same s
  have f := f.trans (Same.fr s)
  refine ⟨_, rfl, C4, rfl, ⟨_, SqL.of hC4⟩, for_list (K := K) (a := C4) (xs := ws.map V.int) (fun j σ H' => H' = H9 ∧ ∃ w5 w6 w7, σ = [some (.ref p), some (.ref d), some (.ref e), some (.ref C8), some (.ref C4), w5, w6, w7]) ⟨rfl, _, _, _, rfl⟩ (fun j σ H' _ h => by rw [h.1]; exact SqL.of hC4) ?_ ?_⟩
  · rintro j z σ H' hz ⟨rfl, w5, w6, w7, rfl⟩
    obtain ⟨y, hy, rfl⟩ := List.mem_map.mp (List.mem_of_getElem? hz)
    obtain ⟨y, rfl⟩ := nat (bws y hy)
    refine ⟨_, rfl, _, rfl, e, invT T1 p1 r1, r1.toNat, (p1 : Int), y, rfl, R2, o2, rb2, ?_⟩
    rw [hv2]
    refine ⟨_, rfl, C8, rfl, ⟨_, SqL.of hC8⟩, for_list (K := K) (a := C8) (xs := xs.map V.int) (fun i σ H'' => H'' = H' ∧ ∃ w7, σ = [some (.ref p), some (.ref d), some (.ref e), some (.ref C8), some (.ref C4), some (.int (y : Int)), some (.int (lf T1 p1 r1 y : Int)), w7]) ⟨rfl, _, rfl⟩ (fun j σ H' _ h => by rw [h.1]; exact SqL.of hC8) ?_ ?_⟩
    · rintro i z σ H'' hz ⟨rfl, w7, rfl⟩
      obtain ⟨x, hx, rfl⟩ := List.mem_map.mp (List.mem_of_getElem? hz)
      obtain ⟨x, rfl⟩ := nat (bxs x hx)
      refine ⟨_, rfl, _, rfl, d, T1, p1, r1, x, rfl, R1, o1, rb1, ?_⟩
      refine ⟨_, rfl, _, _, rfl, rfl, _, rfl, _, rfl, _, _, rfl, rfl, rfl, _, rfl, ?_⟩
      have e : decide ((y : Int) ≤ vl T1 p1 r1 x) = decide ((lf T1 p1 r1 y : Int) ≤ (x : Int)) := by
        have := lf_le o1 r0 (x := x) (y := y)
        exact decide_eq_decide.mpr ⟨fun h => by have := this.mpr h; omega, fun h => this.mp (by omega)⟩
      exact same_v (congrArg V.bl e) ⟨rfl, _, rfl⟩
    · rintro σ H'' ⟨rfl, w7, rfl⟩
      exact ⟨rfl, _, _, _, rfl⟩
  rintro σ H' ⟨rfl, w5, w6, w7, rfl⟩
  exact k _ nW f D9 (by omega) (by omega)
abbrev s_l_back_right : Stmt := topS 37
abbrev N_l_back_right : List Str := ["_law_deck_here", "_law_rule_here", "_law_other", "_law_back", "_law_x", "_law_plain", "_law_over", "_law_under"]
theorem sc_l_back_right : FnScope N_l_back_right ["_law_deck_here", "_law_rule_here", "_law_other"] (defScope s_l_back_right) := ⟨rfl, rfl, rfl, by decide +kernel, rfl, by decide +kernel, by decide +kernel⟩
theorem ok_l_back_right (T : Txt mg) (D : Df K mg "_law_back_right" s_l_back_right ["_law_deck_here", "_law_rule_here", "_law_other"]) (C_best_rule : Cal P w K mg base "best_rule" ["one", "other"] 7 (sp_best_rule K)) (C_l_all_small : Cal P w K mg base "_law_all_small" ["_law_rules"] 1 (sp_l_all_small K)) (C_then_rule : Cal P w K mg base "then_rule" ["first", "second"] 5 (sp_then_rule K)) (C_l_far : Cal P w K mg base "_law_far" ["_law_deck_here", "_law_many"] 3 (sp_l_far K)) (C_value_of : Cal P w K mg base "value_of" ["rule", "x"] 1 (sp_value_of K)) (C_inverse_rule : Cal P w K mg base "inverse_rule" ["rule"] 4 (sp_inverse_rule K)) : Cal P w K mg base "_law_back_right" ["_law_deck_here", "_law_rule_here", "_law_other"] 8 (sp_l_back_right K) := by
  obtain ⟨f_best_rule, fd_best_rule, G_best_rule, m_best_rule, k_best_rule, b_best_rule⟩ := C_best_rule
  obtain ⟨f_l_all_small, fd_l_all_small, G_l_all_small, m_l_all_small, k_l_all_small, b_l_all_small⟩ := C_l_all_small
  obtain ⟨f_then_rule, fd_then_rule, G_then_rule, m_then_rule, k_then_rule, b_then_rule⟩ := C_then_rule
  obtain ⟨f_l_far, fd_l_far, G_l_far, m_l_far, k_l_far, b_l_far⟩ := C_l_far
  obtain ⟨f_value_of, fd_value_of, G_value_of, m_value_of, k_value_of, b_value_of⟩ := C_value_of
  obtain ⟨f_inverse_rule, fd_inverse_rule, G_inverse_rule, m_inverse_rule, k_inverse_rule, b_inverse_rule⟩ := C_inverse_rule
  refine D.cal sc_l_back_right (fun vs H Q E h => ?_) (fun f cdv A outer s H vs Q E hr h => ?_)
  · obtain ⟨p, l, d, e, n, T1, p1, r1, rfl, _⟩ := h
    rfl
  obtain ⟨p, l, d, e, n, T1, p1, r1, rfl, D, n0, n1, R1, sh1, r0, rs1, l1, R2, l2, t2, k⟩ := h
  refine ⟨_, (pss_cons (ps_set (i := 3) sc_l_back_right.nd rfl (Or.inl rfl) (pe_call G_inverse_rule (hr.mono (by decide)) (by rfl) m_inverse_rule k_inverse_rule b_inverse_rule .nil pass0 (pa_cons (pv 2) pa_nil)))
    (pss_cons (ps_for PassesOwn.never rfl (pi_list (pe_call G_l_far (hr.mono (by decide)) (by rfl) m_l_far k_l_far b_l_far .nil pass0 (pa_cons (pv 0) (pa_cons (pe_callB call_len_seq (by rfl) T.n_len (by decide +kernel) (pa_cons (pe_ix ix_tup (pv 1) pe_int (fun _ _ => rfl)) pa_nil)) pa_nil)))) (pg_name (i := 4) sc_l_back_right.nd rfl (Or.inl rfl))
      (pss_one (ps_if (pt_cmpR op_ne (pe_call G_value_of (hr.mono (by decide)) (by rfl) m_value_of k_value_of b_value_of .nil pass0 (pa_cons (pv 3) (pa_cons (pv 4) pa_nil))) (pe_ifExp (pt_cmpR op_eq (pv 4) pe_int (nomark _)) pe_int (pe_op op_add (pe_call G_value_of (hr.mono (by decide)) (by rfl) m_value_of k_value_of b_value_of .nil pass0 (pa_cons (pv 1) (pa_cons (pe_op op_sub (pv 4) pe_int) pa_nil))) pe_int)) (nomark _)) (pss_one (ps_ret pe_bl)) pss_nil)))
    (pss_cons (ps_set (i := 5) sc_l_back_right.nd rfl (Or.inl rfl) (pe_tup (pa_cons (pe_tup (pa_cons pe_int pa_nil)) (pa_cons pe_int (pa_cons pe_int pa_nil)))))
    (pss_cons (ps_par (i := 6) (j := 7) (by rfl) sc_l_back_right.nd rfl rfl (by decide) rfl rfl (pa_cons (pe_call G_then_rule (hr.mono (by decide)) (by rfl) m_then_rule k_then_rule b_then_rule .nil pass0 (pa_cons (pv 2) (pa_cons (pv 1) pa_nil))) (pa_cons (pe_call G_then_rule (hr.mono (by decide)) (by rfl) m_then_rule k_then_rule b_then_rule .nil pass0 (pa_cons (pv 1) (pa_cons (pv 2) pa_nil))) pa_nil)) (by rfl))
    (pss_cons (ps_if (pt_not (pt_val (pe_call G_l_all_small (hr.mono (by decide)) (by rfl) m_l_all_small k_l_all_small b_l_all_small .nil pass0 (pa_cons (pe_lst (pa_cons (pv 6) (pa_cons (pv 7) pa_nil))) pa_nil)))) (pss_one (ps_ret pe_bl)) pss_nil)
    (pss_one (ps_ret (pe_and (pe_cmpR (op_eqD hr.units) (pe_call G_best_rule (hr.mono (by decide)) (by rfl) m_best_rule k_best_rule b_best_rule .nil pass0 (pa_cons (pv 6) (pa_cons (pv 5) pa_nil))) (pv 6) (nomark _)) (pe_one (pe_cmpR (op_eqD hr.units) (pe_call G_best_rule (hr.mono (by decide)) (by rfl) m_best_rule k_best_rule b_best_rule .nil pass0 (pa_cons (pv 7) (pa_cons (pv 5) pa_nil))) (pv 5) (nomark _))))))))))), ?_⟩
  have o1 := sh1.ok
  have sI := inv_short sh1 r0
  obtain ⟨o2, hv2⟩ := inv_ok o1 r0
  have rs2 := inv_rs o1 r0 rs1 l1 l2 t2
  have li := inv_inv o1 r0
  have pp0 := o1.p0
  have pp1 := o1.p1
  have pt1 := rs1.turn
  have ll1 := len_int T1
  have pI : (0 : Int) < (p1 : Int) := by omega
  obtain ⟨o3, hv3⟩ := inv_ok o2 pI
  refine ⟨_, rfl, e, invT T1 p1 r1, r1.toNat, (p1 : Int), rfl, R2, o2, pI, rs2.up (by decide), (by rw [Int.toNat_natCast]; omega), fun H1 b s1 RB1 => ?_⟩
  have l3 : (invT (invT T1 p1 r1) r1.toNat (p1 : Int)).length ≤ 80 := by
    rw [invT_len, Int.toNat_natCast]
    omega
  have hv4 : ∀ y, vl (invT (invT T1 p1 r1) r1.toNat (p1 : Int)) (p1 : Int).toNat (r1.toNat : Int) y = if y = 0 then 0 else vl T1 p1 r1 (y - 1) + 1 := fun y => by
    have n := o1.pos (y - 1)
    rw [hv3, lf_inv o1 r0]
    split
    · rfl
    · omega
  have rb3 : RB (invT (invT T1 p1 r1) r1.toNat (p1 : Int)) (p1 : Int).toNat (r1.toNat : Int) := by
    have u := rs1.r1
    refine ⟨by omega, by omega, fun i hi => ?_⟩
    rw [← vl_lt hi, hv4]
    have a := RS.vl o1 rs1 (by decide) (i - 1)
    split <;> omega
  have R1 := R1.same s1
  have R2 := R2.same s1
  have D := D.same s1
  obtain ⟨t1, hd1, ht1⟩ := id R1
  refine ⟨_, rfl, _, rfl, _, _, _, _, rfl, rfl, SqT.of hd1, atI_nat (j := 0) rfl, _, _, rfl, .inr (SqT.of ht1), p, l, n, _, rfl, D, n0, by omega, by omega, by omega, fun H2 A nA na f2 D2 m0 m1 hA A1 A2 la ba => ?_⟩
  have f := (Same.fr s1).trans f2
  have R1 := R1.fr f2 D
  have R2 := R2.fr f2 D
  have RB1 := RB1.fr f2 D
  clear hd1 ht1 f2
  refine ⟨A, rfl, ⟨_, SqL.of hA⟩, for_list (K := K) (a := A) (xs := na.map V.int) (fun j σ H' => H' = H2 ∧ ∃ w4, σ = [some (.ref p), some (.ref d), some (.ref e), some (.ref b), w4, none, none, none]) ⟨rfl, _, rfl⟩ (fun j σ H' _ h => by rw [h.1]; exact SqL.of hA) ?_ ?_⟩
  · rintro j z σ H' hz ⟨rfl, w4, rfl⟩
    obtain ⟨y, hy, rfl⟩ := List.mem_map.mp (List.mem_of_getElem? hz)
    obtain ⟨x, rfl⟩ : ∃ x : Nat, y = (x : Int) := ⟨y.toNat, (Int.toNat_of_nonneg (ba y hy).1).symm⟩
    refine ⟨_, rfl, _, rfl, b, _, _, _, x, rfl, RB1, o3, rb3, ?_⟩
    rw [hv4]
    by_cases x0 : x = 0
    · subst x0
      exact ⟨_, rfl, rfl, _, rfl, ite3' rfl ⟨rfl, _, rfl, same_v rfl ⟨rfl, _, rfl⟩⟩⟩
    · have e1 : (x : Int) - 1 = ((x - 1 : Nat) : Int) := by omega
      rw [if_neg x0]
      exact ⟨_, rfl, rfl, _, rfl, iten' (fun h => by have := V.int.inj h; omega) ⟨_, rfl, _, rfl, _, _, rfl, rfl, d, T1, p1, r1, x - 1, by rw [← e1]; rfl, R1, o1, rs1.rb (by decide), _, _, rfl, rfl, rfl, _, rfl, same_v rfl ⟨rfl, _, rfl⟩⟩⟩
  rintro σ H' ⟨rfl, w4, rfl⟩
  refine ⟨(by show 1 ≤ sizeLine; decide), fun t nt => ⟨(by show 3 ≤ sizeLine; decide), fun q nq => ?_⟩⟩
  have st := same_upd (o := .tup [.int 0]) nt
  have sq := same_upd (o := .tup [.ref t, .int 1, .int 1]) nq
  have RP : RuleAt (upd (upd H' t (.tup [.int 0])) q (.tup [.ref t, .int 1, .int 1])) q [0] 1 1 := ⟨t, upd_same, sq _ _ upd_same⟩
  have ss := st.trans sq
  have R1 := R1.same ss
  have R2 := R2.same ss
  have D2 := D2.same ss
  generalize upd (upd H' t (.tup [.int 0])) q (.tup [.ref t, .int 1, .int 1]) = H3 at RP R1 R2 D2 ss ⊢
  clear st sq nt nq
  have s15 : RS 100000 T1 p1 r1 := rs1.up (by decide)
  have iT : (invT T1 p1 r1).length = invN T1 p1 r1 + r1.toNat := invT_len
  refine ⟨_, rfl, _, rfl, e, d, invT T1 p1 r1, T1, r1.toNat, p1, (p1 : Int), r1, rfl, R2, R1, o2, o1, rs2, s15, fun T p r s hv => ?_, fun H4 u To po ro s4 Ro so hvo => ?_⟩
  · have := inv_over s o1 r0 hv
    omega
  refine ⟨_, rfl, _, rfl, d, e, T1, invT T1 p1 r1, p1, r1.toNat, r1, (p1 : Int), rfl, R1.same s4, R2.same s4, o1, o2, s15, rs2, fun T p r s hv => ?_, fun H5 v Tu pu ru s5 Ru su hvu => ?_⟩
  · have := inv_under s o1 r0 hv
    omega
  refine ⟨_, _, rfl, _, rfl, _, rfl, (by show 2 ≤ sizeLine; decide), fun L nL => ?_⟩
  have sL := same_upd (o := .lst [.ref u, .ref v]) nL
  have Ro := (Ro.same s5).same sL
  have Ru := Ru.same sL
  have RP := RP.same (s4.trans (s5.trans sL))
  have D5 := D2.same (s4.trans (s5.trans sL))
  have f5 := f.trans (Same.fr (ss.trans (s4.trans (s5.trans sL))))
  refine ⟨L, [⟨u, To, po, ro⟩, ⟨v, Tu, pu, ru⟩], rfl, upd_same, (Nat.le_of_ble_eq_true rfl), fun z hz => ?_, fun H6 bb s6 hb => ?_⟩
  · simp only [List.mem_cons, List.not_mem_nil, or_false] at hz
    rcases hz with rfl | rfl
    · exact Ro
    · exact Ru
  cases bb with
  | false => exact ⟨_, rfl, iteT (k _ nA (f5.trans (Same.fr s6)) (D5.same s6) (by omega) (by omega))⟩
  | true =>
    obtain ⟨lo, qo⟩ := hb.mp rfl ⟨u, To, po, ro⟩ (by simp)
    obtain ⟨lu, qu⟩ := hb.mp rfl ⟨v, Tu, pu, ru⟩ (by simp)
    have lo : To.length ≤ 200 := lo
    have lu : Tu.length ≤ 200 := lu
    have qo : po ≤ 40 := qo
    have qu : pu ≤ 40 := qu
    have Ro := Ro.same s6
    have Ru := Ru.same s6
    have RP := RP.same s6
    have ro1 := thn_rs o2 o1 rs2 s15 pI so.ok hvo (by omega) qo
    have ru1 := thn_rs o1 o2 s15 rs2 r0 su.ok hvu (by omega) qu
    have rp1 : RS 10000000000000 [0] 1 1 := ⟨by decide, by decide, by decide, fun i hi => by
      have hi : i < 1 := hi
      rw [show i = 0 by omega]
      decide⟩
    refine ⟨_, rfl, iteF ?_⟩
    refine ⟨_, rfl, _, rfl, u, q, To, [0], To, po, 1, po, ro, 1, ro, rfl, Ro, RP, so, plain_short, ro1, rp1, so, fun x => ?_, by omega, fun H7 z s7 Rz => ⟨_, rfl, rD To po ro, rD To po ro, Rz.dp, (Ro.same s7).dp, rD_shaped To po ro, rD_shaped To po ro, _, rfl, ?_⟩⟩
    · have := over_ge o1 r0 x
      rw [plain_vl, hvo]
      omega
    rw [rD_eqv]
    refine iteT ?_
    refine ⟨_, rfl, _, rfl, v, q, Tu, [0], [0], pu, 1, 1, ru, 1, 1, rfl, Ru.same s7, RP.same s7, su, plain_short, ru1, rp1, plain_short, fun x => ?_, (Nat.le_of_ble_eq_true rfl), fun H8 z' s8 Rz' => ⟨_, rfl, rD [0] 1 1, rD [0] 1 1, Rz'.dp, ((RP.same s7).same s8).dp, rD_shaped _ _ _, rD_shaped _ _ _, ?_⟩⟩
    · have := under_le o1 r0 x
      rw [plain_vl, hvu]
      omega
    rw [rD_eqv]
    exact k _ nA (f5.trans (Same.fr (s6.trans (s7.trans s8)))) (D5.same (s6.trans (s7.trans s8))) (by omega) (by omega)
end
end Sm

set_option Elab.async false
set_option linter.all false
set_option maxRecDepth 100000
set_option maxHeartbeats 4000000
namespace Sm
open PySem PySem.Spec PyProof.Rows L2
/-! ### a tuple taken once, or no times -/
theorem tuple_once (l : Addr) (items : Array Value) (n : Nat) (dd : Option Addr) (sl : Array (Option Value)) (u : Tok) :
    Meets (Builtin.«tuple.__mul__» ⟨[.ref l, .int 1 u], []⟩) (fun _ R s => s.heap.get? l = some { cls := .type "tuple", dict := dd, data := .seq items n, slots := sl } ∧ R (.ok (.ret (Value.ref l))) s) :=
  .of_wp fun prog w A R s h => by
    obtain ⟨hp, g, d, tk, os⟩ := s
    obtain ⟨hl, h⟩ := h
    have f1 := AutoSeq1.idx_int
    have c0 : (decide ((1 : Int) < -(2 ^ 63)) || decide ((1 : Int) ≥ 2 ^ 63)) = false := by decide
    wp_walk using wpAny_loadPart' hl
    exact ⟨_, rfl, h⟩
theorem tuple_zero (l : Addr) (items : Array Value) (n : Nat) (dd : Option Addr) (sl : Array (Option Value)) (u : Tok) (hi : items.isEmpty = false) :
    Meets (Builtin.«tuple.__mul__» ⟨[.ref l, .int 0 u], []⟩) (fun _ R s => s.heap.get? l = some { cls := .type "tuple", dict := dd, data := .seq items n, slots := sl } ∧ R (.ok (.ret (Value.ref s.heap.objs.size))) { s with heap := s.heap.push { cls := Value.type "tuple", data := Data.seq #[] } }) :=
  .of_wp fun prog w A R s h => by
    obtain ⟨hp, g, d, tk, os⟩ := s
    obtain ⟨hl, h⟩ := h
    have f1 := AutoSeq1.idx_int
    wp_walk using wpAny_loadPart' hl
    exact ⟨_, rfl, h⟩
section
variable {X : Cx}
/-- tuple * int, the int from 0 on -/
theorem op_rep0 : OpR X (binaryOp .Mult) (fun x y H Q => ∃ (l : Addr) (k : Int) (xs : List V), x = .ref l ∧ y = .int k ∧ H l = some (.tup xs) ∧ xs ≠ [] ∧ 0 ≤ k ∧ k ≤ 1000 ∧ xs.length ≤ 1000 ∧
    ∀ H' q, Same H H' → H' q = some (.tup (List.replicate k.toNat xs).flatten) → Q (.ref q) H') := by
  intro pins s σ H x y v u Q I rx ry want
  obtain ⟨l, k, xs, rfl, rfl, hT, hne, h0, h1, hz, q⟩ := want
  by_cases big : 2 ≤ k
  · exact op_repT pins s σ H _ _ v u Q I rx ry ⟨l, k, xs, rfl, rfl, SqT.of hT, hne, big, h1, hz, fun p np => q _ p (fun b o e => by rw [upd_ne (ne_of_none e np)]; exact e) upd_same⟩
  cases rx
  obtain ⟨t, rfl⟩ := ry
  obtain ⟨its, r, ⟨⟨cls, dd, data, sl⟩, ho, hc, n, hd⟩, hs⟩ := I.tuple (SqT.of hT)
  simp only at hc hd
  subst hc hd
  have hi : its.toArray.isEmpty = false := by
    cases its with
    | nil =>
      have := r.length
      exact absurd (List.eq_nil_of_length_eq_zero this) hne
    | cons a b => rfl
  by_cases one : k = 1
  · subst one
    refine wpAny_binaryOp_repeat_ref (T := "tuple") (U := "int") (by decide) ⟨_, ho, rfl⟩ (fun s' => typeIs_int s' 1 t) noFill_tuple_mul F.fills_int_mul F.slot_int_rmul repeat_tuple F.slot_int_index.lookup
      (call_meets F.slot_int_rmul (typeIs_int s 1 t) F.entry_int_rmul (F.args_int_rmul_2 _ _) (int_rmul_tuple 1 t l its.toArray n dd sl) ⟨ho, rfl, ⟨_, ho, rfl⟩, ?_⟩)
    refine call_meets F.slot_tuple_mul ⟨_, ho, rfl⟩ F.entry_tuple_mul (F.args_tuple_mul_2 _ _) (tuple_once l its.toArray n dd sl t) ⟨ho, ?_⟩
    refine ⟨.ref l, H, I, rfl, q H l (Same.refl H) ?_⟩
    rw [hT]
    simp
  · have zero : k = 0 := by omega
    subst zero
    refine wpAny_binaryOp_repeat_ref (T := "tuple") (U := "int") (by decide) ⟨_, ho, rfl⟩ (fun s' => typeIs_int s' 0 t) noFill_tuple_mul F.fills_int_mul F.slot_int_rmul repeat_tuple F.slot_int_index.lookup
      (call_meets F.slot_int_rmul (typeIs_int s 0 t) F.entry_int_rmul (F.args_int_rmul_2 _ _) (int_rmul_tuple 0 t l its.toArray n dd sl) ⟨ho, rfl, ⟨_, ho, rfl⟩, ?_⟩)
    refine call_meets F.slot_tuple_mul ⟨_, ho, rfl⟩ F.entry_tuple_mul (F.args_tuple_mul_2 _ _) (tuple_zero l its.toArray n dd sl t hi) ⟨ho, ?_⟩
    have fresh := I.hok.fresh (Nat.le_refl s.heap.objs.size)
    refine ⟨.ref s.heap.objs.size, upd H s.heap.objs.size (.tup []), I.laid (t' := s.toks) (fun b ob e => Heap.get?_push_of_some _ e) (Nat.le_refl _) ?_, rfl, q _ _ (fun b o e => by rw [upd_ne (ne_of_none e fresh)]; exact e) upd_same⟩
    exact ⟨Nat.zero_le _, [], .nil, IsTup.new _ _⟩
end
end Sm

set_option Elab.async false
set_option linter.all false
set_option maxRecDepth 100000
set_option maxHeartbeats 16000000
namespace Sm
open PySem PySem.Spec PyProof.Rows L2
open C8 (pss_cut tCut)
theorem sizes5 {H : Hp} {t1 t2 t3 t4 t5 : Addr} {i : Nat} (hi : i < 5) (h1 : H t1 = some (.tup [.int 4, .int 4, .int 2])) (h2 : H t2 = some (.tup [.int 0, .int 9, .int 3])) (h3 : H t3 = some (.tup [.int 20, .int 6, .int 5]))
    (h4 : H t4 = some (.tup [.int 8, .int 30, .int 1])) (h5 : H t5 = some (.tup [.int 30, .int 10, .int 60])) :
    ∃ (tv : Addr) (lo wi ta : Int), [V.ref t1, V.ref t2, V.ref t3, V.ref t4, V.ref t5][i]? = some (.ref tv) ∧ H tv = some (.tup [.int lo, .int wi, .int ta]) ∧ 0 ≤ lo ∧ lo ≤ 200 ∧ 1 ≤ wi ∧ wi ≤ 40 ∧ 0 ≤ ta ∧ ta ≤ 1000 ∧ (ta + 1) * (lo + wi + 1) ≤ 2600 ∧ lo + wi ≤ 40 := by
  obtain rfl | rfl | rfl | rfl | rfl : i = 0 ∨ i = 1 ∨ i = 2 ∨ i = 3 ∨ i = 4 := by omega
  · exact ⟨t1, 4, 4, 2, rfl, h1, by decide, by decide, by decide, by decide, by decide, by decide, by decide, by decide⟩
  · exact ⟨t2, 0, 9, 3, rfl, h2, by decide, by decide, by decide, by decide, by decide, by decide, by decide, by decide⟩
  · exact ⟨t3, 20, 6, 5, rfl, h3, by decide, by decide, by decide, by decide, by decide, by decide, by decide, by decide⟩
  · exact ⟨t4, 8, 30, 1, rfl, h4, by decide, by decide, by decide, by decide, by decide, by decide, by decide, by decide⟩
  · exact ⟨t5, 30, 10, 60, rfl, h5, by decide, by decide, by decide, by decide, by decide, by decide, by decide, by decide⟩
section
variable {K : PySem.W.Frag} {H : Hp} {Q : VK} {d e q : Addr} {T : List Int} {p : Nat} {r : Int}
theorem is_rule (R : RuleAt H d T p r) (hq : H q = some (.tup [])) (k : Q (.bl true) H) : rNeD K (.ref d) (.ref q) H Q := by
  refine ⟨rD T p r, .tuple [], R.dp, .tup (SqT.of hq) .nil, rD_shaped T p r, rfl, ?_⟩
  have e : PyData.eqv (rD T p r) (.tuple []) = false := by
    unfold rD
    simp [PyData.eqv, PyData.eqvAll]
  rw [e]
  exact k
theorem is_nil (hd : H d = some (.tup [])) (hq : H q = some (.tup [])) (k : Q (.bl false) H) : rNeD K (.ref d) (.ref q) H Q :=
  ⟨.tuple [], .tuple [], .tup (SqT.of hd) .nil, .tup (SqT.of hq) .nil, rfl, rfl, k⟩
theorem rule_same (R : RuleAt H d T p r) (R' : RuleAt H e T p r) (k : Q (.bl false) H) : rNeD K (.ref d) (.ref e) H Q := by
  refine ⟨rD T p r, rD T p r, R.dp, R'.dp, rD_shaped T p r, rD_shaped T p r, ?_⟩
  rw [rD_eqv]
  exact k
end
/-- what one round of the law has in hand -/
structure Lw (p l d1 d2 e1 e2 : Addr) (T1 : List Int) (p1 : Nat) (r1 : Int) (T2 : List Int) (p2 : Nat) (r2 : Int) (H : Hp) (n : Int) : Prop where
  D : Deck H p l n
  R1 : RuleAt H d1 T1 p1 r1
  R2 : RuleAt H d2 T2 p2 r2
  t1 : ToldInv H e1 T1 p1 r1
  R4 : RuleAt H e2 (invT T2 p2 r2) r2.toNat (p2 : Int)
section
variable {p l d1 d2 e1 e2 : Addr} {T1 : List Int} {p1 : Nat} {r1 : Int} {T2 : List Int} {p2 : Nat} {r2 : Int} {H H' : Hp} {n n' : Int}
theorem Lw.fr (W : Lw p l d1 d2 e1 e2 T1 p1 r1 T2 p2 r2 H n) (f : Fr p l H H') (D : Deck H' p l n') : Lw p l d1 d2 e1 e2 T1 p1 r1 T2 p2 r2 H' n' := by
  refine ⟨D, W.R1.fr f W.D, W.R2.fr f W.D, ?_, W.R4.fr f W.D⟩
  rcases W.t1 with ⟨a, b⟩ | ⟨a, b⟩
  · exact .inl ⟨a, b.fr f W.D⟩
  · exact .inr ⟨a, f.tup W.D b⟩
theorem Lw.same (W : Lw p l d1 d2 e1 e2 T1 p1 r1 T2 p2 r2 H n) (s : Same H H') : Lw p l d1 d2 e1 e2 T1 p1 r1 T2 p2 r2 H' n := W.fr (Same.fr s) (W.D.same s)
end
/-- the inverse of one behind the other, or () -/
def BothAt (T1 : List Int) (p1 : Nat) (r1 : Int) (T2 : List Int) (p2 : Nat) (r2 : Int) (H : Hp) (q : Addr) : Prop :=
  H q = some (.tup []) ∨ ∃ (Tc : List Int) (pc : Nat) (rc : Int), Short Tc pc rc ∧ (∀ x, vl Tc pc rc x = thn T1 p1 r1 T2 p2 r2 x) ∧ 0 < rc ∧ invN Tc pc rc + rc.toNat ≤ 5000 ∧ RuleAt H q (invT Tc pc rc) rc.toNat (pc : Int)
theorem BothAt.same {T1 : List Int} {p1 : Nat} {r1 : Int} {T2 : List Int} {p2 : Nat} {r2 : Int} {H H' : Hp} {q : Addr} (b : BothAt T1 p1 r1 T2 p2 r2 H q) (s : Same H H') : BothAt T1 p1 r1 T2 p2 r2 H' q := by
  rcases b with h | ⟨Tc, pc, rc, a, b, c, d, R⟩
  · exact .inl (s _ _ h)
  · exact .inr ⟨Tc, pc, rc, a, b, c, d, R.same s⟩
/-- what the law knows of both rules -/
structure Kn (T1 : List Int) (p1 : Nat) (r1 : Int) (T2 : List Int) (p2 : Nat) (r2 : Int) : Prop where
  sh1 : Short T1 p1 r1
  sh2 : Short T2 p2 r2
  r10 : 0 < r1
  r20 : 0 < r2
  rs1 : RS 3000 T1 p1 r1
  rs2 : RS 24 T2 p2 r2
  l1 : T1.length ≤ 40
  l2 : T2.length ≤ 6
theorem Kn.lim {T1 : List Int} {p1 : Nat} {r1 : Int} {T2 : List Int} {p2 : Nat} {r2 : Int} (k : Kn T1 p1 r1 T2 p2 r2) (T : List Int) (p : Nat) (r : Int) (s : Short T p r) (hv : ∀ x, vl T p r x = thn T1 p1 r1 T2 p2 r2 x) : T.length ≤ 5000 := by
  have a := thn_len s k.sh1.ok k.sh2.ok k.r10 hv
  have q1 := k.rs1.turn
  have q2 := k.sh2.ok.p1
  have l1 := k.l1
  have l2 := k.l2
  have m1 : T2.length * p1 ≤ 6 * 40 := Nat.mul_le_mul l2 q1
  have m2 : p2 * p1 ≤ 6 * 40 := Nat.mul_le_mul (by omega) q1
  omega
theorem inv_rb {T : List Int} {p : Nat} {r : Int} (o : RuleOk T p r) (r0 : 0 < r) (s : RS 3000 T p r) (hl : T.length ≤ 40) (h1 : (invT T p r).length ≤ 5000) : RB (invT T p r) r.toNat (p : Int) := by
  have t := s.turn
  refine ⟨by omega, by omega, fun i hi => ?_⟩
  rw [invT_at (by rw [← invT_len]; exact hi)]
  have a := lf_small o r0 i
  have b : i * p ≤ 5000 * 40 := Nat.mul_le_mul (by omega) t
  omega
def sp_law (K : PySem.W.Frag) : Sp := fun vs H Q _ => ∃ (a : Addr) (ns : List Int), vs = [.ref a] ∧ SqL K H a (ns.map V.int) ∧ ns.length ≤ 63 ∧ ∀ H', Q (.bl true) H'
section
variable {P : Program} {w : World} {K : PySem.W.Frag} {mg : Str → Option Value} {base : Heap}
abbrev s_law : Stmt := topS 39
abbrev N_law : List Str := ["_law_script", "_law_deck_here", "_law_turn", "_law_long", "_law_wide", "_law_tall", "_law_rule_here", "_law_more", "_law_other", "_law_last", "_law_both"]
theorem sc_law : FnScope N_law ["_law_script"] (defScope s_law) := ⟨rfl, rfl, rfl, by decide +kernel, rfl, by decide +kernel, by decide +kernel⟩
theorem ok_lawG {f : Addr} {fd : FuncData} (T : Txt mg) (F : Fun K "law" "law" s_law f fd) (C_then_rule : Cal P w K mg base "then_rule" ["first", "second"] 5 (sp_then_rule K)) (C_l_all_small : Cal P w K mg base "_law_all_small" ["_law_rules"] 1 (sp_l_all_small K)) (C_l_told : Cal P w K mg base "_law_told" ["_law_rule_here"] 5 (sp_l_told K)) (C_l_back_right : Cal P w K mg base "_law_back_right" ["_law_deck_here", "_law_rule_here", "_law_other"] 8 (sp_l_back_right K)) (C_l_pair_right : Cal P w K mg base "_law_pair_right" ["_law_deck_here", "_law_rule_here", "_law_other"] 4 (sp_l_pair_right K)) (C_l_rising : Cal P w K mg base "_law_rising" ["_law_deck_here", "_law_long", "_law_wide", "_law_tall"] 5 (sp_l_rising K)) (C_l_deck : Cal P w K mg base "_law_deck" ["_law_script"] 1 (sp_l_deck K)) : FnG P w K mg base 9 f fd ["_law_script"] (sp_law K) := by
  obtain ⟨f_then_rule, fd_then_rule, G_then_rule, m_then_rule, k_then_rule, b_then_rule⟩ := C_then_rule
  obtain ⟨f_l_all_small, fd_l_all_small, G_l_all_small, m_l_all_small, k_l_all_small, b_l_all_small⟩ := C_l_all_small
  obtain ⟨f_l_told, fd_l_told, G_l_told, m_l_told, k_l_told, b_l_told⟩ := C_l_told
  obtain ⟨f_l_back_right, fd_l_back_right, G_l_back_right, m_l_back_right, k_l_back_right, b_l_back_right⟩ := C_l_back_right
  obtain ⟨f_l_pair_right, fd_l_pair_right, G_l_pair_right, m_l_pair_right, k_l_pair_right, b_l_pair_right⟩ := C_l_pair_right
  obtain ⟨f_l_rising, fd_l_rising, G_l_rising, m_l_rising, k_l_rising, b_l_rising⟩ := C_l_rising
  obtain ⟨f_l_deck, fd_l_deck, G_l_deck, m_l_deck, k_l_deck, b_l_deck⟩ := C_l_deck
  refine FnG.body F sc_law (fun vs H Q E h => ?_) (fun cdv A outer s H vs Q E gu hr h => ?_)
  · obtain ⟨a, ns, rfl, _⟩ := h
    rfl
  obtain ⟨a, ns, rfl, hS, hlen, kk⟩ := h
  refine ⟨_, (pss_cons (ps_set (i := 1) sc_law.nd rfl (Or.inl rfl) (pe_call G_l_deck (hr.mono (by decide)) (by rfl) m_l_deck k_l_deck b_l_deck .nil pass0 (pa_cons (pv 0) pa_nil)))
    (pss_cons (ps_for PassesOwn.never rfl (pi_range1 (by rfl) T.n_range (pa_cons pe_int pa_nil)) (pg_name (i := 2) sc_law.nd rfl (Or.inl rfl))
      (pss_cons (ps_asg (pe_ix ix_list (pe_lst (pa_cons (pe_tup (pa_cons pe_int (pa_cons pe_int (pa_cons pe_int pa_nil)))) (pa_cons (pe_tup (pa_cons pe_int (pa_cons pe_int (pa_cons pe_int pa_nil)))) (pa_cons (pe_tup (pa_cons pe_int (pa_cons pe_int (pa_cons pe_int pa_nil)))) (pa_cons (pe_tup (pa_cons pe_int (pa_cons pe_int (pa_cons pe_int pa_nil)))) (pa_cons (pe_tup (pa_cons pe_int (pa_cons pe_int (pa_cons pe_int pa_nil)))) pa_nil)))))) (pv 2) (fun _ _ => rfl)) (pg_tup (by rfl) (pgs_cons (pg_name (i := 3) sc_law.nd rfl (Or.inl rfl)) (pgs_cons (pg_name (i := 4) sc_law.nd rfl (Or.inl rfl)) (pgs_cons (pg_name (i := 5) sc_law.nd rfl (Or.inl rfl)) pgs_nil)))))
    (pss_cons (ps_par (i := 6) (j := 7) (by rfl) sc_law.nd rfl rfl (by decide) rfl rfl (pa_cons (pe_call G_l_rising (hr.mono (by decide)) (by rfl) m_l_rising k_l_rising b_l_rising .nil pass0 (pa_cons (pv 1) (pa_cons (pv 3) (pa_cons (pv 4) (pa_cons (pv 5) pa_nil))))) (pa_cons (pe_call G_l_rising (hr.mono (by decide)) (by rfl) m_l_rising k_l_rising b_l_rising .nil pass0 (pa_cons (pv 1) (pa_cons pe_int (pa_cons pe_int (pa_cons pe_int pa_nil))))) pa_nil)) (by rfl))
    (pss_cons (ps_par (i := 8) (j := 9) (by rfl) sc_law.nd rfl rfl (by decide) rfl rfl (pa_cons (pe_call G_l_told (hr.mono (by decide)) (by rfl) m_l_told k_l_told b_l_told .nil pass0 (pa_cons (pv 6) pa_nil)) (pa_cons (pe_call G_l_told (hr.mono (by decide)) (by rfl) m_l_told k_l_told b_l_told .nil pass0 (pa_cons (pv 7) pa_nil)) pa_nil)) (by rfl))
    (pss_cut (ps_if (PW.pt (pw_and (pt_cmpR (op_neD hr.units) (pv 8) (pe_tup pa_nil) (nomark _)) (pw_and1 (pt_not (pt_val (pe_call G_l_pair_right (hr.mono (by decide)) (by rfl) m_l_pair_right k_l_pair_right b_l_pair_right .nil pass0 (pa_cons (pv 1) (pa_cons (pv 6) (pa_cons (pv 8) pa_nil))))))))) (pss_one (ps_ret pe_bl)) pss_nil)
    (pss_cut (ps_if (PW.pt (pw_and (pt_cmpR (op_neD hr.units) (pv 8) (pe_tup pa_nil) (nomark _)) (pw_and (pt_val (pe_call G_l_all_small (hr.mono (by decide)) (by rfl) m_l_all_small k_l_all_small b_l_all_small .nil pass0 (pa_cons (pe_lst (pa_cons (pv 8) pa_nil)) pa_nil))) (pw_and1 (pt_not (pt_val (pe_call G_l_back_right (hr.mono (by decide)) (by rfl) m_l_back_right k_l_back_right b_l_back_right .nil pass0 (pa_cons (pv 1) (pa_cons (pv 6) (pa_cons (pv 8) pa_nil)))))))))) (pss_one (ps_ret pe_bl)) pss_nil)
    (pss_cut (ps_set (i := 10) sc_law.nd rfl (Or.inl rfl) (pe_ifExp (pt_val (pe_call G_l_all_small (hr.mono (by decide)) (by rfl) m_l_all_small k_l_all_small b_l_all_small .nil pass0 (pa_cons (pe_lst (pa_cons (pe_call G_then_rule (hr.mono (by decide)) (by rfl) m_then_rule k_then_rule b_then_rule .nil pass0 (pa_cons (pv 6) (pa_cons (pv 7) pa_nil))) pa_nil)) pa_nil))) (pe_call G_l_told (hr.mono (by decide)) (by rfl) m_l_told k_l_told b_l_told .nil pass0 (pa_cons (pe_call G_then_rule (hr.mono (by decide)) (by rfl) m_then_rule k_then_rule b_then_rule .nil pass0 (pa_cons (pv 6) (pa_cons (pv 7) pa_nil))) pa_nil)) (pe_tup pa_nil)))
    (pss_one (ps_if (PW.pt (pw_and (pt_cmpR (op_neD hr.units) (pv 8) (pe_tup pa_nil) (nomark _)) (pw_and (pt_cmpR (op_neD hr.units) (pv 10) (pe_tup pa_nil) (nomark _)) (pw_and (pt_val (pe_call G_l_all_small (hr.mono (by decide)) (by rfl) m_l_all_small k_l_all_small b_l_all_small .nil pass0 (pa_cons (pe_lst (pa_cons (pv 8) (pa_cons (pv 9) pa_nil))) pa_nil))) (pw_and1 (pt_cmpR (op_neD hr.units) (pv 10) (pe_call G_then_rule (hr.mono (by decide)) (by rfl) m_then_rule k_then_rule b_then_rule .nil pass0 (pa_cons (pv 9) (pa_cons (pv 8) pa_nil))) (nomark _))))))) (pss_one (ps_ret pe_bl)) pss_nil)))))))))
    (pss_one (ps_ret pe_bl)))), ?_⟩
  refine ⟨_, rfl, a, ns, rfl, hS, hlen, fun H1 p l s1 D1 => ?_⟩
  refine ⟨5, rfl, (by decide), (by decide), for_range (lo := 0) (n := 5) (fun i σ H' => ∃ (n : Int) (v2 v3 v4 v5 v6 v7 v8 v9 v10 : Option V), σ = [some (.ref a), some (.ref p), v2, v3, v4, v5, v6, v7, v8, v9, v10] ∧ Deck H' p l n ∧ 0 ≤ n ∧ n ≤ 3000 * (i : Int))
    ⟨0, none, none, none, none, none, none, none, none, none, rfl, D1, by omega, by omega⟩ ?_ ?_⟩
  · rintro i σ H2 hi ⟨n, v2, v3, v4, v5, v6, v7, v8, v9, v10, rfl, D2, n0, n1⟩
    refine ⟨(by show 3 ≤ sizeLine; decide), fun t1 nt1 => ⟨(by show 3 ≤ sizeLine; decide), fun t2 nt2 => ⟨(by show 3 ≤ sizeLine; decide), fun t3 nt3 => ⟨(by show 3 ≤ sizeLine; decide), fun t4 nt4 =>
      ⟨(by show 3 ≤ sizeLine; decide), fun t5 nt5 => ⟨(by show 5 ≤ sizeLine; decide), fun tb ntb => ?_⟩⟩⟩⟩⟩⟩
    have u1 := same_upd (o := .tup [.int 4, .int 4, .int 2]) nt1
    have u2 := same_upd (o := .tup [.int 0, .int 9, .int 3]) nt2
    have u3 := same_upd (o := .tup [.int 20, .int 6, .int 5]) nt3
    have u4 := same_upd (o := .tup [.int 8, .int 30, .int 1]) nt4
    have u5 := same_upd (o := .tup [.int 30, .int 10, .int 60]) nt5
    have ub := same_upd (o := .lst [.ref t1, .ref t2, .ref t3, .ref t4, .ref t5]) ntb
    obtain ⟨tv, lo, wi, ta, hget, htv, lo0, lo1, wi0, wi1, ta0, ta1, hM, lw⟩ := sizes5 hi ((u2.trans (u3.trans (u4.trans (u5.trans ub)))) _ _ upd_same) ((u3.trans (u4.trans (u5.trans ub))) _ _ upd_same) ((u4.trans (u5.trans ub)) _ _ upd_same) ((u5.trans ub) _ _ upd_same) (ub _ _ upd_same)
    have sA := u1.trans (u2.trans (u3.trans (u4.trans (u5.trans ub))))
    have DA := D2.same sA
    refine ⟨_, rfl, _, _, _, _, rfl, rfl, SqL.of upd_same, at_of (j := i) (Int.zero_add _) hget, _, _, rfl, SqT.of htv, rfl, _, _, rfl, _, _, rfl, _, _, rfl, rfl, ?_⟩
    generalize upd (upd (upd (upd (upd (upd H2 t1 _) t2 _) t3 _) t4 _) t5 _) tb _ = HA at sA DA htv ⊢
    clear u1 u2 u3 u4 u5 ub nt1 nt2 nt3 nt4 nt5 ntb
    refine ⟨_, rfl, _, rfl, _, rfl, _, rfl, p, l, n, lo, wi, ta, 2600, rfl, DA, n0, by omega, lo0, lo1, wi0, wi1, ta0, ta1, hM, by decide, fun HB d1 T1 p1 r1 nB fB DB mB0 mB1 R1 rs1 ln1 sh1 r10 => ?_⟩
    refine ⟨_, rfl, p, l, nB, 3, 3, 2, 21, rfl, DB, by omega, by omega, by decide, by decide, by decide, by decide, by decide, by decide, by decide, by decide, fun HC d2 T2 p2 r2 nC fC DC mC0 mC1 R2 rs2 ln2 sh2 r20 => ?_⟩
    have R1 := R1.fr fC DB
    have rs2 : RS 24 T2 p2 r2 := rs2
    have kn : Kn T1 p1 r1 T2 p2 r2 := ⟨sh1, sh2, r10, r20, rs1.up (by decide), rs2, by omega, by omega⟩
    refine ⟨_, _, rfl, ?_⟩
    refine ⟨_, rfl, d1, T1, p1, r1, rfl, R1, sh1.ok, r10, rs1.up (by decide), fun HD e1 sD told1 => ?_⟩
    refine ⟨_, rfl, d2, T2, p2, r2, rfl, R2.same sD, sh2.ok, r20, rs2.up (by decide), fun HE e2 sE told2 => ⟨_, _, rfl, ?_⟩⟩
    have few : invN T2 p2 r2 + r2.toNat ≤ 5000 := by
      have a := invB_hi sh2.ok
      have b := rs2.top (T2.length - 1) (by have := sh2.ok.p0; have := sh2.ok.p1; omega)
      have c := rs2.r1
      unfold invN
      omega
    have R4 : RuleAt HE e2 (invT T2 p2 r2) r2.toNat (p2 : Int) := by
      rcases told2 with ⟨_, h⟩ | ⟨h, _⟩
      · exact h
      · omega
    have ss := sD.trans sE
    have W : Lw p l d1 d2 e1 e2 T1 p1 r1 T2 p2 r2 HE nC := ⟨DC.same ss, R1.same ss, R2.same ss, by
      rcases told1 with ⟨h, R⟩ | ⟨h, R⟩
      · exact .inl ⟨h, R.same sE⟩
      · exact .inr ⟨h, sE _ _ R⟩, R4⟩
    clear told1 told2 R4 R1 R2 sA DA DB DC sD sE ss fB fC D2 htv
    -- every pair
    refine ⟨fun σ H' => ∃ n', σ = [some (.ref a), some (.ref p), some (.int (0 + (i : Int))), some (.int lo), some (.int wi), some (.int ta), some (.ref d1), some (.ref d2), some (.ref e1), some (.ref e2), v10] ∧ Lw p l d1 d2 e1 e2 T1 p1 r1 T2 p2 r2 H' n' ∧ nC ≤ n' ∧ n' ≤ nC + 40, ?_, ?_⟩
    · refine ⟨_, rfl, (by show 0 ≤ sizeLine; decide), fun q nq => ?_⟩
      have W := W.same (same_upd (o := .tup []) nq)
      rcases W.t1 with ⟨h, R⟩ | ⟨h, R⟩
      · refine is_rule R upd_same ⟨_, rfl, iteT ?_⟩
        refine ⟨_, rfl, _, rfl, _, rfl, p, l, d1, e1, nC, T1, p1, r1, rfl, W.D, by omega, by omega, W.R1, sh1.ok, r10, kn.rs1.rb (by decide), by have := kn.l1; omega, R, inv_rb sh1.ok r10 kn.rs1 kn.l1 (by rw [invT_len]; omega), by rw [invT_len]; omega, fun H' n' f D' a1 a2 => ⟨_, rfl, iteF ⟨n', rfl, W.fr f D', a1, a2⟩⟩⟩
      · exact is_nil R upd_same ⟨_, rfl, iteF (iteF ⟨nC, rfl, W, by omega, by omega⟩)⟩
    rintro σ H3 ⟨n3, rfl, W, m3, m4⟩
    -- back again
    refine ⟨fun σ H' => ∃ n', σ = [some (.ref a), some (.ref p), some (.int (0 + (i : Int))), some (.int lo), some (.int wi), some (.int ta), some (.ref d1), some (.ref d2), some (.ref e1), some (.ref e2), v10] ∧ Lw p l d1 d2 e1 e2 T1 p1 r1 T2 p2 r2 H' n' ∧ nC ≤ n' ∧ n' ≤ nC + 60, ?_, ?_⟩
    · refine ⟨_, rfl, (by show 0 ≤ sizeLine; decide), fun q nq => ?_⟩
      have W := W.same (same_upd (o := .tup []) nq)
      rcases W.t1 with ⟨h, R⟩ | ⟨h, R⟩
      · refine is_rule R upd_same ⟨_, rfl, iteT ?_⟩
        refine ⟨_, rfl, (by show 1 ≤ sizeLine; decide), fun L nL => ?_⟩
        have sL := same_upd (o := .lst [.ref e1]) nL
        refine ⟨L, [⟨e1, invT T1 p1 r1, r1.toNat, (p1 : Int)⟩], rfl, upd_same, (Nat.le_of_ble_eq_true rfl), fun z hz => ?_, fun H6 bb s6 hb => ?_⟩
        · rw [List.mem_singleton.mp hz]
          exact R.same sL
        have W := W.same (sL.trans s6)
        cases bb with
        | false => exact ⟨_, rfl, iteF (iteF ⟨n3, rfl, W, by omega, by omega⟩)⟩
        | true =>
          obtain ⟨z1, z2⟩ := hb.mp rfl ⟨e1, invT T1 p1 r1, r1.toNat, (p1 : Int)⟩ (by simp)
          refine ⟨_, rfl, iteT ?_⟩
          exact ⟨_, rfl, _, rfl, _, rfl, p, l, d1, e1, n3, T1, p1, r1, rfl, W.D, by omega, by omega, W.R1, sh1, r10, kn.rs1, kn.l1, (R.same sL).same s6, z1, z2, fun H' n' f D' a1 a2 => ⟨_, rfl, iteF ⟨n', rfl, W.fr f D', by omega, by omega⟩⟩⟩
      · exact is_nil R upd_same ⟨_, rfl, iteF (iteF ⟨n3, rfl, W, by omega, by omega⟩)⟩
    rintro σ H4 ⟨n4, rfl, W, m5, m6⟩
    have s15 : RS 100000 T1 p1 r1 := kn.rs1.up (by decide)
    have s25 : RS 100000 T2 p2 r2 := kn.rs2.up (by decide)
    -- one behind the other
    refine ⟨fun σ H' => ∃ qb, σ = [some (.ref a), some (.ref p), some (.int (0 + (i : Int))), some (.int lo), some (.int wi), some (.int ta), some (.ref d1), some (.ref d2), some (.ref e1), some (.ref e2), some (.ref qb)] ∧ Lw p l d1 d2 e1 e2 T1 p1 r1 T2 p2 r2 H' n4 ∧ BothAt T1 p1 r1 T2 p2 r2 H' qb, ?_, ?_⟩
    · refine ⟨_, rfl, _, rfl, d1, d2, T1, T2, p1, p2, r1, r2, rfl, W.R1, W.R2, sh1.ok, sh2.ok, s15, s25, kn.lim, fun H6 c Tc pc rc s6 Rc sc hvc => ⟨(by show 1 ≤ sizeLine; decide), fun L nL => ?_⟩⟩
      have sL := same_upd (o := .lst [.ref c]) nL
      refine ⟨L, [⟨c, Tc, pc, rc⟩], rfl, upd_same, (Nat.le_of_ble_eq_true rfl), fun z hz => ?_, fun H7 bb s7 hb => ⟨_, rfl, ?_⟩⟩
      · rw [List.mem_singleton.mp hz]
        exact Rc.same sL
      have W := W.same (s6.trans (sL.trans s7))
      cases bb with
      | false => exact iteF ⟨(by show 0 ≤ sizeLine; decide), fun q nq => ⟨q, rfl, W.same (same_upd nq), .inl upd_same⟩⟩
      | true =>
        obtain ⟨z1, z2⟩ := hb.mp rfl ⟨c, Tc, pc, rc⟩ (by simp)
        have z1 : Tc.length ≤ 200 := z1
        refine iteT ⟨_, rfl, _, rfl, d1, d2, T1, T2, p1, p2, r1, r2, rfl, W.R1, W.R2, sh1.ok, sh2.ok, s15, s25, kn.lim, fun H8 c' Tc' pc' rc' s8 Rc' sc' hv' => ?_⟩
        obtain ⟨rfl, rfl, rfl⟩ := short_one sc' sc fun x => by rw [hv', hvc]
        have up := thn_rises sh1.ok sh2.ok sc.ok r10 r20 hvc
        refine ⟨c', Tc', pc', rc', rfl, Rc', sc.ok, up, thn_rs sh1.ok sh2.ok s15 s25 r10 sc.ok hvc (by omega) z2, fun H9 q s9 told => ⟨q, rfl, W.same (s8.trans s9), ?_⟩⟩
        rcases told with ⟨h, R⟩ | ⟨h, R⟩
        · exact .inr ⟨Tc', pc', rc', sc, hvc, up, h, R⟩
        · exact .inl R
    rintro σ H5 ⟨qb, rfl, W, both⟩
    refine ⟨_, rfl, (by show 0 ≤ sizeLine; decide), fun q nq => ?_⟩
    have W := W.same (same_upd (o := .tup []) nq)
    have both := both.same (same_upd (o := .tup []) nq)
    rcases W.t1 with ⟨h, R⟩ | ⟨h, R⟩
    · refine is_rule R upd_same ⟨_, rfl, iteT ?_⟩
      refine ⟨_, rfl, (by show 0 ≤ sizeLine; decide), fun q2 nq2 => ?_⟩
      have s2 := same_upd (o := .tup []) nq2
      have W := W.same s2
      have R := R.same s2
      rcases both.same s2 with hb | ⟨Tc, pc, rc, sc, hvc, up, few, Rb⟩
      · exact is_nil hb upd_same ⟨_, rfl, iteF (iteF ⟨n4, _, _, _, _, _, _, _, _, _, rfl, W.D, by omega, by omega⟩)⟩
      refine is_rule Rb upd_same ⟨_, rfl, iteT ?_⟩
      refine ⟨_, rfl, _, rfl, (by show 2 ≤ sizeLine; decide), fun L nL => ?_⟩
      have sL := same_upd (o := .lst [.ref e1, .ref e2]) nL
      have W := W.same sL
      refine ⟨L, [⟨e1, invT T1 p1 r1, r1.toNat, (p1 : Int)⟩, ⟨e2, invT T2 p2 r2, r2.toNat, (p2 : Int)⟩], rfl, upd_same, (Nat.le_of_ble_eq_true rfl), fun z hz => ?_, fun H6 bb s6 hb => ⟨_, rfl, ?_⟩⟩
      · simp only [List.mem_cons, List.not_mem_nil, or_false] at hz
        rcases hz with rfl | rfl
        · exact R.same sL
        · exact W.R4
      have W := W.same s6
      cases bb with
      | false => exact iteF (iteF ⟨n4, _, _, _, _, _, _, _, _, _, rfl, W.D, by omega, by omega⟩)
      | true =>
        obtain ⟨z1, z2⟩ := hb.mp rfl ⟨e1, invT T1 p1 r1, r1.toNat, (p1 : Int)⟩ (by simp)
        obtain ⟨z3, z4⟩ := hb.mp rfl ⟨e2, invT T2 p2 r2, r2.toNat, (p2 : Int)⟩ (by simp)
        obtain ⟨o3, hv3⟩ := inv_ok sh1.ok r10
        obtain ⟨o4, hv4⟩ := inv_ok sh2.ok r20
        obtain ⟨oc, hvI⟩ := inv_ok sc.ok up
        have sI := inv_short sc up
        have same : ∀ x, vl (invT Tc pc rc) rc.toNat (pc : Int) x = thn (invT T2 p2 r2) r2.toNat (p2 : Int) (invT T1 p1 r1) r1.toNat (p1 : Int) x := fun x => by
          unfold thn
          rw [hvI, hv4, Int.toNat_natCast, hv3, lf_thn sh1.ok sh2.ok sc.ok r10 r20 up hvc]
        have Rb := (Rb.same sL).same s6
        refine iteT ⟨_, rfl, _, rfl, _, rfl, e2, e1, invT T2 p2 r2, invT T1 p1 r1, r2.toNat, r1.toNat, (p2 : Int), (p1 : Int), rfl, W.R4, (R.same sL).same s6, o4, o3, inv_rs sh2.ok r20 (kn.rs2.up (by decide)) (by have := kn.l2; omega) z3 z4, inv_rs sh1.ok r10 kn.rs1 kn.l1 z1 z2, fun T p r s hv => ?_, fun H7 z Tz pz rz s7 Rz sz hvz => ?_⟩
        · obtain ⟨rfl, rfl, rfl⟩ := short_one s sI fun x => by rw [hv, same]
          rw [invT_len]
          omega
        obtain ⟨rfl, rfl, rfl⟩ := short_one sz sI fun x => by rw [hvz, same]
        have W := W.same s7
        exact rule_same (Rb.same s7) Rz ⟨_, rfl, iteF ⟨n4, _, _, _, _, _, _, _, _, _, rfl, W.D, by omega, by omega⟩⟩
    · exact is_nil R upd_same ⟨_, rfl, iteF (iteF ⟨n4, _, _, _, _, _, _, _, _, _, rfl, W.D, by omega, by omega⟩)⟩
  · rintro σ H2 ⟨n, v2, v3, v4, v5, v6, v7, v8, v9, v10, rfl, D2, n0, n1⟩
    exact kk _
end
end Sm

set_option Elab.async false
set_option linter.all false
set_option maxRecDepth 100000
set_option maxHeartbeats 16000000
namespace Sm
open PySem PySem.Spec PyProof.Rows L2
theorem all_mk {l : PySem.W.OpenLaw} {w : World} {K : PySem.W.Frag} {h : Heap} {mg : Str → Option Value} {fa : Addr} (X : K.In h) (G : h.Ns mainGlobals mg) (hfa : mg "law" = some (.ref fa))
    {F_shortest : Addr} {od_shortest an_shortest : Option Addr} {sl_shortest : Array (Option Value)} {oc_shortest kV_shortest dc_shortest pm_shortest cd_shortest ct_shortest : Value} (a_shortest : PySem.W.nsIn K mainGlobals "shortest" = some (some (.ref F_shortest))) (l_shortest : K.lookup F_shortest = some ⟨oc_shortest, od_shortest, .func (PySem.W.fnOf "shortest" "shortest" (defArgs s_shortest) (defBody s_shortest) (defScope s_shortest) .none kV_shortest dc_shortest pm_shortest an_shortest cd_shortest ct_shortest), sl_shortest⟩) (c_shortest : PySem.W.codeIn K cd_shortest "shortest" = true) (k_shortest : PySem.W.keepIn K (.ref F_shortest) = true)
    {F_cycle_of : Addr} {od_cycle_of an_cycle_of : Option Addr} {sl_cycle_of : Array (Option Value)} {oc_cycle_of kV_cycle_of dc_cycle_of pm_cycle_of cd_cycle_of ct_cycle_of : Value} (a_cycle_of : PySem.W.nsIn K mainGlobals "cycle_of" = some (some (.ref F_cycle_of))) (l_cycle_of : K.lookup F_cycle_of = some ⟨oc_cycle_of, od_cycle_of, .func (PySem.W.fnOf "cycle_of" "cycle_of" (defArgs s_cycle_of) (defBody s_cycle_of) (defScope s_cycle_of) .none kV_cycle_of dc_cycle_of pm_cycle_of an_cycle_of cd_cycle_of ct_cycle_of), sl_cycle_of⟩) (c_cycle_of : PySem.W.codeIn K cd_cycle_of "cycle_of" = true) (k_cycle_of : PySem.W.keepIn K (.ref F_cycle_of) = true)
    {F_told : Addr} {od_told an_told : Option Addr} {sl_told : Array (Option Value)} {oc_told kV_told dc_told pm_told cd_told ct_told : Value} (a_told : PySem.W.nsIn K mainGlobals "told" = some (some (.ref F_told))) (l_told : K.lookup F_told = some ⟨oc_told, od_told, .func (PySem.W.fnOf "told" "told" (defArgs s_told) (defBody s_told) (defScope s_told) .none kV_told dc_told pm_told an_told cd_told ct_told), sl_told⟩) (c_told : PySem.W.codeIn K cd_told "told" = true) (k_told : PySem.W.keepIn K (.ref F_told) = true)
    {F_check_told : Addr} {od_check_told an_check_told : Option Addr} {sl_check_told : Array (Option Value)} {oc_check_told kV_check_told dc_check_told pm_check_told cd_check_told ct_check_told : Value} (a_check_told : PySem.W.nsIn K mainGlobals "check_told" = some (some (.ref F_check_told))) (l_check_told : K.lookup F_check_told = some ⟨oc_check_told, od_check_told, .func (PySem.W.fnOf "check_told" "check_told" (defArgs s_check_told) (defBody s_check_told) (defScope s_check_told) .none kV_check_told dc_check_told pm_check_told an_check_told cd_check_told ct_check_told), sl_check_told⟩) (c_check_told : PySem.W.codeIn K cd_check_told "check_told" = true) (k_check_told : PySem.W.keepIn K (.ref F_check_told) = true)
    {F_value_of : Addr} {od_value_of an_value_of : Option Addr} {sl_value_of : Array (Option Value)} {oc_value_of kV_value_of dc_value_of pm_value_of cd_value_of ct_value_of : Value} (a_value_of : PySem.W.nsIn K mainGlobals "value_of" = some (some (.ref F_value_of))) (l_value_of : K.lookup F_value_of = some ⟨oc_value_of, od_value_of, .func (PySem.W.fnOf "value_of" "value_of" (defArgs s_value_of) (defBody s_value_of) (defScope s_value_of) .none kV_value_of dc_value_of pm_value_of an_value_of cd_value_of ct_value_of), sl_value_of⟩) (c_value_of : PySem.W.codeIn K cd_value_of "value_of" = true) (k_value_of : PySem.W.keepIn K (.ref F_value_of) = true)
    {F_values_to : Addr} {od_values_to an_values_to : Option Addr} {sl_values_to : Array (Option Value)} {oc_values_to kV_values_to dc_values_to pm_values_to cd_values_to ct_values_to : Value} (a_values_to : PySem.W.nsIn K mainGlobals "values_to" = some (some (.ref F_values_to))) (l_values_to : K.lookup F_values_to = some ⟨oc_values_to, od_values_to, .func (PySem.W.fnOf "values_to" "values_to" (defArgs s_values_to) (defBody s_values_to) (defScope s_values_to) .none kV_values_to dc_values_to pm_values_to an_values_to cd_values_to ct_values_to), sl_values_to⟩) (c_values_to : PySem.W.codeIn K cd_values_to "values_to" = true) (k_values_to : PySem.W.keepIn K (.ref F_values_to) = true)
    {F_least_for : Addr} {od_least_for an_least_for : Option Addr} {sl_least_for : Array (Option Value)} {oc_least_for kV_least_for dc_least_for pm_least_for cd_least_for ct_least_for : Value} (a_least_for : PySem.W.nsIn K mainGlobals "least_for" = some (some (.ref F_least_for))) (l_least_for : K.lookup F_least_for = some ⟨oc_least_for, od_least_for, .func (PySem.W.fnOf "least_for" "least_for" (defArgs s_least_for) (defBody s_least_for) (defScope s_least_for) .none kV_least_for dc_least_for pm_least_for an_least_for cd_least_for ct_least_for), sl_least_for⟩) (c_least_for : PySem.W.codeIn K cd_least_for "least_for" = true) (k_least_for : PySem.W.keepIn K (.ref F_least_for) = true)
    {F_first_place : Addr} {od_first_place an_first_place : Option Addr} {sl_first_place : Array (Option Value)} {oc_first_place kV_first_place dc_first_place pm_first_place cd_first_place ct_first_place : Value} (a_first_place : PySem.W.nsIn K mainGlobals "first_place" = some (some (.ref F_first_place))) (l_first_place : K.lookup F_first_place = some ⟨oc_first_place, od_first_place, .func (PySem.W.fnOf "first_place" "first_place" (defArgs s_first_place) (defBody s_first_place) (defScope s_first_place) .none kV_first_place dc_first_place pm_first_place an_first_place cd_first_place ct_first_place), sl_first_place⟩) (c_first_place : PySem.W.codeIn K cd_first_place "first_place" = true) (k_first_place : PySem.W.keepIn K (.ref F_first_place) = true)
    {F_begin_of : Addr} {od_begin_of an_begin_of : Option Addr} {sl_begin_of : Array (Option Value)} {oc_begin_of kV_begin_of dc_begin_of pm_begin_of cd_begin_of ct_begin_of : Value} (a_begin_of : PySem.W.nsIn K mainGlobals "begin_of" = some (some (.ref F_begin_of))) (l_begin_of : K.lookup F_begin_of = some ⟨oc_begin_of, od_begin_of, .func (PySem.W.fnOf "begin_of" "begin_of" (defArgs s_begin_of) (defBody s_begin_of) (defScope s_begin_of) .none kV_begin_of dc_begin_of pm_begin_of an_begin_of cd_begin_of ct_begin_of), sl_begin_of⟩) (c_begin_of : PySem.W.codeIn K cd_begin_of "begin_of" = true) (k_begin_of : PySem.W.keepIn K (.ref F_begin_of) = true)
    {F_rise_in : Addr} {od_rise_in an_rise_in : Option Addr} {sl_rise_in : Array (Option Value)} {oc_rise_in kV_rise_in dc_rise_in pm_rise_in cd_rise_in ct_rise_in : Value} (a_rise_in : PySem.W.nsIn K mainGlobals "rise_in" = some (some (.ref F_rise_in))) (l_rise_in : K.lookup F_rise_in = some ⟨oc_rise_in, od_rise_in, .func (PySem.W.fnOf "rise_in" "rise_in" (defArgs s_rise_in) (defBody s_rise_in) (defScope s_rise_in) .none kV_rise_in dc_rise_in pm_rise_in an_rise_in cd_rise_in ct_rise_in), sl_rise_in⟩) (c_rise_in : PySem.W.codeIn K cd_rise_in "rise_in" = true) (k_rise_in : PySem.W.keepIn K (.ref F_rise_in) = true)
    {F_common_turn : Addr} {od_common_turn an_common_turn : Option Addr} {sl_common_turn : Array (Option Value)} {oc_common_turn kV_common_turn dc_common_turn pm_common_turn cd_common_turn ct_common_turn : Value} (a_common_turn : PySem.W.nsIn K mainGlobals "common_turn" = some (some (.ref F_common_turn))) (l_common_turn : K.lookup F_common_turn = some ⟨oc_common_turn, od_common_turn, .func (PySem.W.fnOf "common_turn" "common_turn" (defArgs s_common_turn) (defBody s_common_turn) (defScope s_common_turn) .none kV_common_turn dc_common_turn pm_common_turn an_common_turn cd_common_turn ct_common_turn), sl_common_turn⟩) (c_common_turn : PySem.W.codeIn K cd_common_turn "common_turn" = true) (k_common_turn : PySem.W.keepIn K (.ref F_common_turn) = true)
    {F_best_rule : Addr} {od_best_rule an_best_rule : Option Addr} {sl_best_rule : Array (Option Value)} {oc_best_rule kV_best_rule dc_best_rule pm_best_rule cd_best_rule ct_best_rule : Value} (a_best_rule : PySem.W.nsIn K mainGlobals "best_rule" = some (some (.ref F_best_rule))) (l_best_rule : K.lookup F_best_rule = some ⟨oc_best_rule, od_best_rule, .func (PySem.W.fnOf "best_rule" "best_rule" (defArgs s_best_rule) (defBody s_best_rule) (defScope s_best_rule) .none kV_best_rule dc_best_rule pm_best_rule an_best_rule cd_best_rule ct_best_rule), sl_best_rule⟩) (c_best_rule : PySem.W.codeIn K cd_best_rule "best_rule" = true) (k_best_rule : PySem.W.keepIn K (.ref F_best_rule) = true)
    {F_overtaking_rule : Addr} {od_overtaking_rule an_overtaking_rule : Option Addr} {sl_overtaking_rule : Array (Option Value)} {oc_overtaking_rule kV_overtaking_rule dc_overtaking_rule pm_overtaking_rule cd_overtaking_rule ct_overtaking_rule : Value} (a_overtaking_rule : PySem.W.nsIn K mainGlobals "overtaking_rule" = some (some (.ref F_overtaking_rule))) (l_overtaking_rule : K.lookup F_overtaking_rule = some ⟨oc_overtaking_rule, od_overtaking_rule, .func (PySem.W.fnOf "overtaking_rule" "overtaking_rule" (defArgs s_overtaking_rule) (defBody s_overtaking_rule) (defScope s_overtaking_rule) .none kV_overtaking_rule dc_overtaking_rule pm_overtaking_rule an_overtaking_rule cd_overtaking_rule ct_overtaking_rule), sl_overtaking_rule⟩) (c_overtaking_rule : PySem.W.codeIn K cd_overtaking_rule "overtaking_rule" = true) (k_overtaking_rule : PySem.W.keepIn K (.ref F_overtaking_rule) = true)
    {F_greater_values : Addr} {od_greater_values an_greater_values : Option Addr} {sl_greater_values : Array (Option Value)} {oc_greater_values kV_greater_values dc_greater_values pm_greater_values cd_greater_values ct_greater_values : Value} (a_greater_values : PySem.W.nsIn K mainGlobals "greater_values" = some (some (.ref F_greater_values))) (l_greater_values : K.lookup F_greater_values = some ⟨oc_greater_values, od_greater_values, .func (PySem.W.fnOf "greater_values" "greater_values" (defArgs s_greater_values) (defBody s_greater_values) (defScope s_greater_values) .none kV_greater_values dc_greater_values pm_greater_values an_greater_values cd_greater_values ct_greater_values), sl_greater_values⟩) (c_greater_values : PySem.W.codeIn K cd_greater_values "greater_values" = true) (k_greater_values : PySem.W.keepIn K (.ref F_greater_values) = true)
    {F_last_above : Addr} {od_last_above an_last_above : Option Addr} {sl_last_above : Array (Option Value)} {oc_last_above kV_last_above dc_last_above pm_last_above cd_last_above ct_last_above : Value} (a_last_above : PySem.W.nsIn K mainGlobals "last_above" = some (some (.ref F_last_above))) (l_last_above : K.lookup F_last_above = some ⟨oc_last_above, od_last_above, .func (PySem.W.fnOf "last_above" "last_above" (defArgs s_last_above) (defBody s_last_above) (defScope s_last_above) .none kV_last_above dc_last_above pm_last_above an_last_above cd_last_above ct_last_above), sl_last_above⟩) (c_last_above : PySem.W.codeIn K cd_last_above "last_above" = true) (k_last_above : PySem.W.keepIn K (.ref F_last_above) = true)
    {F_then_rule : Addr} {od_then_rule an_then_rule : Option Addr} {sl_then_rule : Array (Option Value)} {oc_then_rule kV_then_rule dc_then_rule pm_then_rule cd_then_rule ct_then_rule : Value} (a_then_rule : PySem.W.nsIn K mainGlobals "then_rule" = some (some (.ref F_then_rule))) (l_then_rule : K.lookup F_then_rule = some ⟨oc_then_rule, od_then_rule, .func (PySem.W.fnOf "then_rule" "then_rule" (defArgs s_then_rule) (defBody s_then_rule) (defScope s_then_rule) .none kV_then_rule dc_then_rule pm_then_rule an_then_rule cd_then_rule ct_then_rule), sl_then_rule⟩) (c_then_rule : PySem.W.codeIn K cd_then_rule "then_rule" = true) (k_then_rule : PySem.W.keepIn K (.ref F_then_rule) = true)
    {F_inverse_rule : Addr} {od_inverse_rule an_inverse_rule : Option Addr} {sl_inverse_rule : Array (Option Value)} {oc_inverse_rule kV_inverse_rule dc_inverse_rule pm_inverse_rule cd_inverse_rule ct_inverse_rule : Value} (a_inverse_rule : PySem.W.nsIn K mainGlobals "inverse_rule" = some (some (.ref F_inverse_rule))) (l_inverse_rule : K.lookup F_inverse_rule = some ⟨oc_inverse_rule, od_inverse_rule, .func (PySem.W.fnOf "inverse_rule" "inverse_rule" (defArgs s_inverse_rule) (defBody s_inverse_rule) (defScope s_inverse_rule) .none kV_inverse_rule dc_inverse_rule pm_inverse_rule an_inverse_rule cd_inverse_rule ct_inverse_rule), sl_inverse_rule⟩) (c_inverse_rule : PySem.W.codeIn K cd_inverse_rule "inverse_rule" = true) (k_inverse_rule : PySem.W.keepIn K (.ref F_inverse_rule) = true)
    {F_l_deck : Addr} {od_l_deck an_l_deck : Option Addr} {sl_l_deck : Array (Option Value)} {oc_l_deck kV_l_deck dc_l_deck pm_l_deck cd_l_deck ct_l_deck : Value} (a_l_deck : PySem.W.nsIn K mainGlobals "_law_deck" = some (some (.ref F_l_deck))) (l_l_deck : K.lookup F_l_deck = some ⟨oc_l_deck, od_l_deck, .func (PySem.W.fnOf "_law_deck" "_law_deck" (defArgs s_l_deck) (defBody s_l_deck) (defScope s_l_deck) .none kV_l_deck dc_l_deck pm_l_deck an_l_deck cd_l_deck ct_l_deck), sl_l_deck⟩) (c_l_deck : PySem.W.codeIn K cd_l_deck "_law_deck" = true) (k_l_deck : PySem.W.keepIn K (.ref F_l_deck) = true)
    {F_l_draw : Addr} {od_l_draw an_l_draw : Option Addr} {sl_l_draw : Array (Option Value)} {oc_l_draw kV_l_draw dc_l_draw pm_l_draw cd_l_draw ct_l_draw : Value} (a_l_draw : PySem.W.nsIn K mainGlobals "_law_draw" = some (some (.ref F_l_draw))) (l_l_draw : K.lookup F_l_draw = some ⟨oc_l_draw, od_l_draw, .func (PySem.W.fnOf "_law_draw" "_law_draw" (defArgs s_l_draw) (defBody s_l_draw) (defScope s_l_draw) .none kV_l_draw dc_l_draw pm_l_draw an_l_draw cd_l_draw ct_l_draw), sl_l_draw⟩) (c_l_draw : PySem.W.codeIn K cd_l_draw "_law_draw" = true) (k_l_draw : PySem.W.keepIn K (.ref F_l_draw) = true)
    {F_l_one : Addr} {od_l_one an_l_one : Option Addr} {sl_l_one : Array (Option Value)} {oc_l_one kV_l_one dc_l_one pm_l_one cd_l_one ct_l_one : Value} (a_l_one : PySem.W.nsIn K mainGlobals "_law_one" = some (some (.ref F_l_one))) (l_l_one : K.lookup F_l_one = some ⟨oc_l_one, od_l_one, .func (PySem.W.fnOf "_law_one" "_law_one" (defArgs s_l_one) (defBody s_l_one) (defScope s_l_one) .none kV_l_one dc_l_one pm_l_one an_l_one cd_l_one ct_l_one), sl_l_one⟩) (c_l_one : PySem.W.codeIn K cd_l_one "_law_one" = true) (k_l_one : PySem.W.keepIn K (.ref F_l_one) = true)
    {F_l_value : Addr} {od_l_value an_l_value : Option Addr} {sl_l_value : Array (Option Value)} {oc_l_value kV_l_value dc_l_value pm_l_value cd_l_value ct_l_value : Value} (a_l_value : PySem.W.nsIn K mainGlobals "_law_value" = some (some (.ref F_l_value))) (l_l_value : K.lookup F_l_value = some ⟨oc_l_value, od_l_value, .func (PySem.W.fnOf "_law_value" "_law_value" (defArgs s_l_value) (defBody s_l_value) (defScope s_l_value) .none kV_l_value dc_l_value pm_l_value an_l_value cd_l_value ct_l_value), sl_l_value⟩) (c_l_value : PySem.W.codeIn K cd_l_value "_law_value" = true) (k_l_value : PySem.W.keepIn K (.ref F_l_value) = true)
    {F_l_repeats : Addr} {od_l_repeats an_l_repeats : Option Addr} {sl_l_repeats : Array (Option Value)} {oc_l_repeats kV_l_repeats dc_l_repeats pm_l_repeats cd_l_repeats ct_l_repeats : Value} (a_l_repeats : PySem.W.nsIn K mainGlobals "_law_repeats" = some (some (.ref F_l_repeats))) (l_l_repeats : K.lookup F_l_repeats = some ⟨oc_l_repeats, od_l_repeats, .func (PySem.W.fnOf "_law_repeats" "_law_repeats" (defArgs s_l_repeats) (defBody s_l_repeats) (defScope s_l_repeats) .none kV_l_repeats dc_l_repeats pm_l_repeats an_l_repeats cd_l_repeats ct_l_repeats), sl_l_repeats⟩) (c_l_repeats : PySem.W.codeIn K cd_l_repeats "_law_repeats" = true) (k_l_repeats : PySem.W.keepIn K (.ref F_l_repeats) = true)
    {F_l_least : Addr} {od_l_least an_l_least : Option Addr} {sl_l_least : Array (Option Value)} {oc_l_least kV_l_least dc_l_least pm_l_least cd_l_least ct_l_least : Value} (a_l_least : PySem.W.nsIn K mainGlobals "_law_least" = some (some (.ref F_l_least))) (l_l_least : K.lookup F_l_least = some ⟨oc_l_least, od_l_least, .func (PySem.W.fnOf "_law_least" "_law_least" (defArgs s_l_least) (defBody s_l_least) (defScope s_l_least) .none kV_l_least dc_l_least pm_l_least an_l_least cd_l_least ct_l_least), sl_l_least⟩) (c_l_least : PySem.W.codeIn K cd_l_least "_law_least" = true) (k_l_least : PySem.W.keepIn K (.ref F_l_least) = true)
    {F_l_rule : Addr} {od_l_rule an_l_rule : Option Addr} {sl_l_rule : Array (Option Value)} {oc_l_rule kV_l_rule dc_l_rule pm_l_rule cd_l_rule ct_l_rule : Value} (a_l_rule : PySem.W.nsIn K mainGlobals "_law_rule" = some (some (.ref F_l_rule))) (l_l_rule : K.lookup F_l_rule = some ⟨oc_l_rule, od_l_rule, .func (PySem.W.fnOf "_law_rule" "_law_rule" (defArgs s_l_rule) (defBody s_l_rule) (defScope s_l_rule) .none kV_l_rule dc_l_rule pm_l_rule an_l_rule cd_l_rule ct_l_rule), sl_l_rule⟩) (c_l_rule : PySem.W.codeIn K cd_l_rule "_law_rule" = true) (k_l_rule : PySem.W.keepIn K (.ref F_l_rule) = true)
    {F_l_all_small : Addr} {od_l_all_small an_l_all_small : Option Addr} {sl_l_all_small : Array (Option Value)} {oc_l_all_small kV_l_all_small dc_l_all_small pm_l_all_small cd_l_all_small ct_l_all_small : Value} (a_l_all_small : PySem.W.nsIn K mainGlobals "_law_all_small" = some (some (.ref F_l_all_small))) (l_l_all_small : K.lookup F_l_all_small = some ⟨oc_l_all_small, od_l_all_small, .func (PySem.W.fnOf "_law_all_small" "_law_all_small" (defArgs s_l_all_small) (defBody s_l_all_small) (defScope s_l_all_small) .none kV_l_all_small dc_l_all_small pm_l_all_small an_l_all_small cd_l_all_small ct_l_all_small), sl_l_all_small⟩) (c_l_all_small : PySem.W.codeIn K cd_l_all_small "_law_all_small" = true) (k_l_all_small : PySem.W.keepIn K (.ref F_l_all_small) = true)
    {F_l_rising : Addr} {od_l_rising an_l_rising : Option Addr} {sl_l_rising : Array (Option Value)} {oc_l_rising kV_l_rising dc_l_rising pm_l_rising cd_l_rising ct_l_rising : Value} (a_l_rising : PySem.W.nsIn K mainGlobals "_law_rising" = some (some (.ref F_l_rising))) (l_l_rising : K.lookup F_l_rising = some ⟨oc_l_rising, od_l_rising, .func (PySem.W.fnOf "_law_rising" "_law_rising" (defArgs s_l_rising) (defBody s_l_rising) (defScope s_l_rising) .none kV_l_rising dc_l_rising pm_l_rising an_l_rising cd_l_rising ct_l_rising), sl_l_rising⟩) (c_l_rising : PySem.W.codeIn K cd_l_rising "_law_rising" = true) (k_l_rising : PySem.W.keepIn K (.ref F_l_rising) = true)
    {F_l_far : Addr} {od_l_far an_l_far : Option Addr} {sl_l_far : Array (Option Value)} {oc_l_far kV_l_far dc_l_far pm_l_far cd_l_far ct_l_far : Value} (a_l_far : PySem.W.nsIn K mainGlobals "_law_far" = some (some (.ref F_l_far))) (l_l_far : K.lookup F_l_far = some ⟨oc_l_far, od_l_far, .func (PySem.W.fnOf "_law_far" "_law_far" (defArgs s_l_far) (defBody s_l_far) (defScope s_l_far) .none kV_l_far dc_l_far pm_l_far an_l_far cd_l_far ct_l_far), sl_l_far⟩) (c_l_far : PySem.W.codeIn K cd_l_far "_law_far" = true) (k_l_far : PySem.W.keepIn K (.ref F_l_far) = true)
    {F_l_pair_right : Addr} {od_l_pair_right an_l_pair_right : Option Addr} {sl_l_pair_right : Array (Option Value)} {oc_l_pair_right kV_l_pair_right dc_l_pair_right pm_l_pair_right cd_l_pair_right ct_l_pair_right : Value} (a_l_pair_right : PySem.W.nsIn K mainGlobals "_law_pair_right" = some (some (.ref F_l_pair_right))) (l_l_pair_right : K.lookup F_l_pair_right = some ⟨oc_l_pair_right, od_l_pair_right, .func (PySem.W.fnOf "_law_pair_right" "_law_pair_right" (defArgs s_l_pair_right) (defBody s_l_pair_right) (defScope s_l_pair_right) .none kV_l_pair_right dc_l_pair_right pm_l_pair_right an_l_pair_right cd_l_pair_right ct_l_pair_right), sl_l_pair_right⟩) (c_l_pair_right : PySem.W.codeIn K cd_l_pair_right "_law_pair_right" = true) (k_l_pair_right : PySem.W.keepIn K (.ref F_l_pair_right) = true)
    {F_l_back_right : Addr} {od_l_back_right an_l_back_right : Option Addr} {sl_l_back_right : Array (Option Value)} {oc_l_back_right kV_l_back_right dc_l_back_right pm_l_back_right cd_l_back_right ct_l_back_right : Value} (a_l_back_right : PySem.W.nsIn K mainGlobals "_law_back_right" = some (some (.ref F_l_back_right))) (l_l_back_right : K.lookup F_l_back_right = some ⟨oc_l_back_right, od_l_back_right, .func (PySem.W.fnOf "_law_back_right" "_law_back_right" (defArgs s_l_back_right) (defBody s_l_back_right) (defScope s_l_back_right) .none kV_l_back_right dc_l_back_right pm_l_back_right an_l_back_right cd_l_back_right ct_l_back_right), sl_l_back_right⟩) (c_l_back_right : PySem.W.codeIn K cd_l_back_right "_law_back_right" = true) (k_l_back_right : PySem.W.keepIn K (.ref F_l_back_right) = true)
    {F_l_told : Addr} {od_l_told an_l_told : Option Addr} {sl_l_told : Array (Option Value)} {oc_l_told kV_l_told dc_l_told pm_l_told cd_l_told ct_l_told : Value} (a_l_told : PySem.W.nsIn K mainGlobals "_law_told" = some (some (.ref F_l_told))) (l_l_told : K.lookup F_l_told = some ⟨oc_l_told, od_l_told, .func (PySem.W.fnOf "_law_told" "_law_told" (defArgs s_l_told) (defBody s_l_told) (defScope s_l_told) .none kV_l_told dc_l_told pm_l_told an_l_told cd_l_told ct_l_told), sl_l_told⟩) (c_l_told : PySem.W.codeIn K cd_l_told "_law_told" = true) (k_l_told : PySem.W.keepIn K (.ref F_l_told) = true)
    {F_law : Addr} {od_law an_law : Option Addr} {sl_law : Array (Option Value)} {oc_law kV_law dc_law pm_law cd_law ct_law : Value} (a_law : PySem.W.nsIn K mainGlobals "law" = some (some (.ref F_law))) (l_law : K.lookup F_law = some ⟨oc_law, od_law, .func (PySem.W.fnOf "law" "law" (defArgs s_law) (defBody s_law) (defScope s_law) .none kV_law dc_law pm_law an_law cd_law ct_law), sl_law⟩) (c_law : PySem.W.codeIn K cd_law "law" = true) (k_law : PySem.W.keepIn K (.ref F_law) = true)
    {cCE cTL fB : Addr} {nm qn : Str} {Nn : Addr} {bs : List Value} {sn : List Str} {sub : List Value} {ab : Bool} {col : Option Bool} {dd : Option Addr} {m0 m1 m2 m3 m5 : Option Value} {odI anI : Option Addr} {slI : Array (Option Value)} {ocI kVI dcI pmI cdI ctI : Value}
    (a_cCE : PySem.W.nsIn K mainGlobals "ChangeError" = some (some (.ref cCE)))
    (a_cTL : PySem.W.nsIn K mainGlobals "TooLong" = some (some (.ref cTL)))
    (x_TL : K.lookup cTL = some (excClassObj nm qn cTL Nn bs [.ref cCE, .type "ValueError", .type "Exception", .type "BaseException", .type "object"] true sn sub ab col dd m0 m1 m2 m3 m5 "ValueError.__new__"))
    (f_sa : PySem.W.findIn K (.ref cTL) "__setattr__" = some (some (.builtin "object.__setattr__")))
    (f_ga : PySem.W.findIn K (.ref cTL) "__getattribute__" = some (some (.builtin "BaseException.__getattribute__")))
    (f_gg : PySem.W.findIn K (.ref cTL) "__getattr__" = some none)
    (f_no : PySem.W.findIn K (.ref cTL) "number" = some none)
    (f_iC : PySem.W.findIn K (.ref cTL) "__init__" = some (some (.ref fB)))
    (f_cl : PySem.W.findIn K (.ref cTL) "__class__" = some (some (.builtin "object.__class__")))
    (t_fB : PySem.W.typeIn K (.ref fB) = some (.type "function"))
    (t_TL : PySem.W.typeIn K (.ref cTL) = some (.type "type"))
    (k_TL : PySem.W.keepIn K (.ref cTL) = true)
    (e_TL : PySem.W.subIn K (.ref cTL) (.type "BaseException") = some true)
    (v_TL : PySem.W.subIn K (.ref cTL) (.type "ValueError") = some true)
    (s_TL : PySem.W.subIn K (.ref cTL) (.ref cTL) = some true)
    (h_TL : PySem.W.hasDictIn K cTL = true)
    (m_TL : PySem.W.mroIn K cTL (.type "object") = some true)
    (g_cl : PySem.W.specialIn K (.builtin "object.__class__") "__get__" = some (some (.builtin "getset_descriptor.__get__")))
    (t_cl : PySem.W.takesIn K (.builtin "object.__class__") = some true)
    (l_fB : K.lookup fB = some ⟨ocI, odI, .func (PySem.W.fnOf "__init__" "TooLong.__init__" (defArgs s_init) (defBody s_init) (defScope s_init) .none kVI dcI pmI anI cdI ctI), slI⟩)
    (c_fB : PySem.W.codeIn K cdI "TooLong.__init__" = true)
    (k_fB : PySem.W.keepIn K (.ref fB) = true)
    (z_abs : PySem.W.nsIn K mainGlobals "abs" = some none)
    (z_int : PySem.W.nsIn K mainGlobals "int" = some none)
    (z_len : PySem.W.nsIn K mainGlobals "len" = some none)
    (z_list : PySem.W.nsIn K mainGlobals "list" = some none)
    (z_max : PySem.W.nsIn K mainGlobals "max" = some none)
    (z_range : PySem.W.nsIn K mainGlobals "range" = some none)
    (z_tuple : PySem.W.nsIn K mainGlobals "tuple" = some none)
    (g_gcd : PySem.W.nsIn K mainGlobals "gcd" = some (some (.builtin "math.gcd")))
    (g_lcm : PySem.W.nsIn K mainGlobals "lcm" = some (some (.builtin "math.lcm")))
    {t_MAX_TOLD : Tok} (g_MAX_TOLD : PySem.W.nsIn K mainGlobals "MAX_TOLD" = some (some (.int 5000 t_MAX_TOLD))) :
    ∃ fd : FuncData, (∀ (s : Shared) (v : Value), BindsTo s fd ⟨[v], []⟩ [("_law_script", v)]) ∧ ∀ base : Heap, K.In base → base.Ns mainGlobals mg → FnG l.prog w K mg base 9 fa fd ["_law_script"] (sp_law K) := by
  have e := hfa.symm.trans (PySem.W.mg_of X G a_law)
  cases e
  have T : Txt mg := ⟨PySem.W.mg_none_of X G z_abs, PySem.W.mg_none_of X G z_int, PySem.W.mg_none_of X G z_len, PySem.W.mg_none_of X G z_list, PySem.W.mg_none_of X G z_max, PySem.W.mg_none_of X G z_range, PySem.W.mg_none_of X G z_tuple, PySem.W.mg_of X G g_gcd, PySem.W.mg_of X G g_lcm, ⟨_, PySem.W.mg_of X G g_MAX_TOLD⟩⟩
  have XO : Txo K mg cTL := ⟨PySem.W.mg_of X G a_cTL, PySem.W.exm_ref e_TL h_TL t_TL s_TL⟩
  have XL : Txl K mg cTL fB :=
    { gBadRule := PySem.W.mg_of X G a_cTL, oex := ⟨⟨nm, qn, Nn, bs, _, sn, sub, ab, col, dd, m0, m1, m2, m3, m5, x_TL, by rfl⟩, f_sa, e_TL, t_TL, k_TL⟩, noE := f_no, iC := f_iC, tI := t_fB,
      fI := ⟨_, fun_mk (st := s_init) l_fB c_fB k_fB, (fun_mk (st := s_init) l_fB c_fB k_fB).binds (ps := ["self", "number"]) fun _ _ _ _ _ _ us hl => match us, hl with | [_, _], _ => rfl⟩ }
  have D_shortest : Df K mg "shortest" s_shortest ["table", "period", "rise"] := ⟨_, _, fun_mk (st := s_shortest) l_shortest c_shortest k_shortest, PySem.W.mg_of X G a_shortest, (fun_mk (st := s_shortest) l_shortest c_shortest k_shortest).binds (ps := ["table", "period", "rise"]) fun _ _ _ _ _ _ us hl => match us, hl with | [_, _, _], _ => rfl⟩
  have D_cycle_of : Df K mg "cycle_of" s_cycle_of ["items"] := ⟨_, _, fun_mk (st := s_cycle_of) l_cycle_of c_cycle_of k_cycle_of, PySem.W.mg_of X G a_cycle_of, (fun_mk (st := s_cycle_of) l_cycle_of c_cycle_of k_cycle_of).binds (ps := ["items"]) fun _ _ _ _ _ _ us hl => match us, hl with | [_], _ => rfl⟩
  have D_told : Df K mg "told" s_told ["table", "period", "rise"] := ⟨_, _, fun_mk (st := s_told) l_told c_told k_told, PySem.W.mg_of X G a_told, (fun_mk (st := s_told) l_told c_told k_told).binds (ps := ["table", "period", "rise"]) fun _ _ _ _ _ _ us hl => match us, hl with | [_, _, _], _ => rfl⟩
  have D_check_told : Df K mg "check_told" s_check_told ["number"] := ⟨_, _, fun_mk (st := s_check_told) l_check_told c_check_told k_check_told, PySem.W.mg_of X G a_check_told, (fun_mk (st := s_check_told) l_check_told c_check_told k_check_told).binds (ps := ["number"]) fun _ _ _ _ _ _ us hl => match us, hl with | [_], _ => rfl⟩
  have D_value_of : Df K mg "value_of" s_value_of ["rule", "x"] := ⟨_, _, fun_mk (st := s_value_of) l_value_of c_value_of k_value_of, PySem.W.mg_of X G a_value_of, (fun_mk (st := s_value_of) l_value_of c_value_of k_value_of).binds (ps := ["rule", "x"]) fun _ _ _ _ _ _ us hl => match us, hl with | [_, _], _ => rfl⟩
  have D_values_to : Df K mg "values_to" s_values_to ["rule", "count"] := ⟨_, _, fun_mk (st := s_values_to) l_values_to c_values_to k_values_to, PySem.W.mg_of X G a_values_to, (fun_mk (st := s_values_to) l_values_to c_values_to k_values_to).binds (ps := ["rule", "count"]) fun _ _ _ _ _ _ us hl => match us, hl with | [_, _], _ => rfl⟩
  have D_least_for : Df K mg "least_for" s_least_for ["rule", "y"] := ⟨_, _, fun_mk (st := s_least_for) l_least_for c_least_for k_least_for, PySem.W.mg_of X G a_least_for, (fun_mk (st := s_least_for) l_least_for c_least_for k_least_for).binds (ps := ["rule", "y"]) fun _ _ _ _ _ _ us hl => match us, hl with | [_, _], _ => rfl⟩
  have D_first_place : Df K mg "first_place" s_first_place ["table", "low", "y"] := ⟨_, _, fun_mk (st := s_first_place) l_first_place c_first_place k_first_place, PySem.W.mg_of X G a_first_place, (fun_mk (st := s_first_place) l_first_place c_first_place k_first_place).binds (ps := ["table", "low", "y"]) fun _ _ _ _ _ _ us hl => match us, hl with | [_, _, _], _ => rfl⟩
  have D_begin_of : Df K mg "begin_of" s_begin_of ["rule"] := ⟨_, _, fun_mk (st := s_begin_of) l_begin_of c_begin_of k_begin_of, PySem.W.mg_of X G a_begin_of, (fun_mk (st := s_begin_of) l_begin_of c_begin_of k_begin_of).binds (ps := ["rule"]) fun _ _ _ _ _ _ us hl => match us, hl with | [_], _ => rfl⟩
  have D_rise_in : Df K mg "rise_in" s_rise_in ["rule", "turn"] := ⟨_, _, fun_mk (st := s_rise_in) l_rise_in c_rise_in k_rise_in, PySem.W.mg_of X G a_rise_in, (fun_mk (st := s_rise_in) l_rise_in c_rise_in k_rise_in).binds (ps := ["rule", "turn"]) fun _ _ _ _ _ _ us hl => match us, hl with | [_, _], _ => rfl⟩
  have D_common_turn : Df K mg "common_turn" s_common_turn ["one", "other"] := ⟨_, _, fun_mk (st := s_common_turn) l_common_turn c_common_turn k_common_turn, PySem.W.mg_of X G a_common_turn, (fun_mk (st := s_common_turn) l_common_turn c_common_turn k_common_turn).binds (ps := ["one", "other"]) fun _ _ _ _ _ _ us hl => match us, hl with | [_, _], _ => rfl⟩
  have D_best_rule : Df K mg "best_rule" s_best_rule ["one", "other"] := ⟨_, _, fun_mk (st := s_best_rule) l_best_rule c_best_rule k_best_rule, PySem.W.mg_of X G a_best_rule, (fun_mk (st := s_best_rule) l_best_rule c_best_rule k_best_rule).binds (ps := ["one", "other"]) fun _ _ _ _ _ _ us hl => match us, hl with | [_, _], _ => rfl⟩
  have D_overtaking_rule : Df K mg "overtaking_rule" s_overtaking_rule ["steep", "flat"] := ⟨_, _, fun_mk (st := s_overtaking_rule) l_overtaking_rule c_overtaking_rule k_overtaking_rule, PySem.W.mg_of X G a_overtaking_rule, (fun_mk (st := s_overtaking_rule) l_overtaking_rule c_overtaking_rule k_overtaking_rule).binds (ps := ["steep", "flat"]) fun _ _ _ _ _ _ us hl => match us, hl with | [_, _], _ => rfl⟩
  have D_greater_values : Df K mg "greater_values" s_greater_values ["one", "other", "count", "turn"] := ⟨_, _, fun_mk (st := s_greater_values) l_greater_values c_greater_values k_greater_values, PySem.W.mg_of X G a_greater_values, (fun_mk (st := s_greater_values) l_greater_values c_greater_values k_greater_values).binds (ps := ["one", "other", "count", "turn"]) fun _ _ _ _ _ _ us hl => match us, hl with | [_, _, _, _], _ => rfl⟩
  have D_last_above : Df K mg "last_above" s_last_above ["flat", "steep"] := ⟨_, _, fun_mk (st := s_last_above) l_last_above c_last_above k_last_above, PySem.W.mg_of X G a_last_above, (fun_mk (st := s_last_above) l_last_above c_last_above k_last_above).binds (ps := ["flat", "steep"]) fun _ _ _ _ _ _ us hl => match us, hl with | [_, _], _ => rfl⟩
  have D_then_rule : Df K mg "then_rule" s_then_rule ["first", "second"] := ⟨_, _, fun_mk (st := s_then_rule) l_then_rule c_then_rule k_then_rule, PySem.W.mg_of X G a_then_rule, (fun_mk (st := s_then_rule) l_then_rule c_then_rule k_then_rule).binds (ps := ["first", "second"]) fun _ _ _ _ _ _ us hl => match us, hl with | [_, _], _ => rfl⟩
  have D_inverse_rule : Df K mg "inverse_rule" s_inverse_rule ["rule"] := ⟨_, _, fun_mk (st := s_inverse_rule) l_inverse_rule c_inverse_rule k_inverse_rule, PySem.W.mg_of X G a_inverse_rule, (fun_mk (st := s_inverse_rule) l_inverse_rule c_inverse_rule k_inverse_rule).binds (ps := ["rule"]) fun _ _ _ _ _ _ us hl => match us, hl with | [_], _ => rfl⟩
  have D_l_deck : Df K mg "_law_deck" s_l_deck ["_law_script"] := ⟨_, _, fun_mk (st := s_l_deck) l_l_deck c_l_deck k_l_deck, PySem.W.mg_of X G a_l_deck, (fun_mk (st := s_l_deck) l_l_deck c_l_deck k_l_deck).binds (ps := ["_law_script"]) fun _ _ _ _ _ _ us hl => match us, hl with | [_], _ => rfl⟩
  have D_l_draw : Df K mg "_law_draw" s_l_draw ["_law_deck_here", "_law_many"] := ⟨_, _, fun_mk (st := s_l_draw) l_l_draw c_l_draw k_l_draw, PySem.W.mg_of X G a_l_draw, (fun_mk (st := s_l_draw) l_l_draw c_l_draw k_l_draw).binds (ps := ["_law_deck_here", "_law_many"]) fun _ _ _ _ _ _ us hl => match us, hl with | [_, _], _ => rfl⟩
  have D_l_one : Df K mg "_law_one" s_l_one ["_law_deck_here", "_law_items"] := ⟨_, _, fun_mk (st := s_l_one) l_l_one c_l_one k_l_one, PySem.W.mg_of X G a_l_one, (fun_mk (st := s_l_one) l_l_one c_l_one k_l_one).binds (ps := ["_law_deck_here", "_law_items"]) fun _ _ _ _ _ _ us hl => match us, hl with | [_, _], _ => rfl⟩
  have D_l_value : Df K mg "_law_value" s_l_value ["_law_rule_here", "_law_x"] := ⟨_, _, fun_mk (st := s_l_value) l_l_value c_l_value k_l_value, PySem.W.mg_of X G a_l_value, (fun_mk (st := s_l_value) l_l_value c_l_value k_l_value).binds (ps := ["_law_rule_here", "_law_x"]) fun _ _ _ _ _ _ us hl => match us, hl with | [_, _], _ => rfl⟩
  have D_l_repeats : Df K mg "_law_repeats" s_l_repeats ["_law_rule_here", "_law_step", "_law_more"] := ⟨_, _, fun_mk (st := s_l_repeats) l_l_repeats c_l_repeats k_l_repeats, PySem.W.mg_of X G a_l_repeats, (fun_mk (st := s_l_repeats) l_l_repeats c_l_repeats k_l_repeats).binds (ps := ["_law_rule_here", "_law_step", "_law_more"]) fun _ _ _ _ _ _ us hl => match us, hl with | [_, _, _], _ => rfl⟩
  have D_l_least : Df K mg "_law_least" s_l_least ["_law_rule_here"] := ⟨_, _, fun_mk (st := s_l_least) l_l_least c_l_least k_l_least, PySem.W.mg_of X G a_l_least, (fun_mk (st := s_l_least) l_l_least c_l_least k_l_least).binds (ps := ["_law_rule_here"]) fun _ _ _ _ _ _ us hl => match us, hl with | [_], _ => rfl⟩
  have D_l_rule : Df K mg "_law_rule" s_l_rule ["_law_deck_here", "_law_long", "_law_wide", "_law_tall"] := ⟨_, _, fun_mk (st := s_l_rule) l_l_rule c_l_rule k_l_rule, PySem.W.mg_of X G a_l_rule, (fun_mk (st := s_l_rule) l_l_rule c_l_rule k_l_rule).binds (ps := ["_law_deck_here", "_law_long", "_law_wide", "_law_tall"]) fun _ _ _ _ _ _ us hl => match us, hl with | [_, _, _, _], _ => rfl⟩
  have D_l_all_small : Df K mg "_law_all_small" s_l_all_small ["_law_rules"] := ⟨_, _, fun_mk (st := s_l_all_small) l_l_all_small c_l_all_small k_l_all_small, PySem.W.mg_of X G a_l_all_small, (fun_mk (st := s_l_all_small) l_l_all_small c_l_all_small k_l_all_small).binds (ps := ["_law_rules"]) fun _ _ _ _ _ _ us hl => match us, hl with | [_], _ => rfl⟩
  have D_l_rising : Df K mg "_law_rising" s_l_rising ["_law_deck_here", "_law_long", "_law_wide", "_law_tall"] := ⟨_, _, fun_mk (st := s_l_rising) l_l_rising c_l_rising k_l_rising, PySem.W.mg_of X G a_l_rising, (fun_mk (st := s_l_rising) l_l_rising c_l_rising k_l_rising).binds (ps := ["_law_deck_here", "_law_long", "_law_wide", "_law_tall"]) fun _ _ _ _ _ _ us hl => match us, hl with | [_, _, _, _], _ => rfl⟩
  have D_l_far : Df K mg "_law_far" s_l_far ["_law_deck_here", "_law_many"] := ⟨_, _, fun_mk (st := s_l_far) l_l_far c_l_far k_l_far, PySem.W.mg_of X G a_l_far, (fun_mk (st := s_l_far) l_l_far c_l_far k_l_far).binds (ps := ["_law_deck_here", "_law_many"]) fun _ _ _ _ _ _ us hl => match us, hl with | [_, _], _ => rfl⟩
  have D_l_pair_right : Df K mg "_law_pair_right" s_l_pair_right ["_law_deck_here", "_law_rule_here", "_law_other"] := ⟨_, _, fun_mk (st := s_l_pair_right) l_l_pair_right c_l_pair_right k_l_pair_right, PySem.W.mg_of X G a_l_pair_right, (fun_mk (st := s_l_pair_right) l_l_pair_right c_l_pair_right k_l_pair_right).binds (ps := ["_law_deck_here", "_law_rule_here", "_law_other"]) fun _ _ _ _ _ _ us hl => match us, hl with | [_, _, _], _ => rfl⟩
  have D_l_back_right : Df K mg "_law_back_right" s_l_back_right ["_law_deck_here", "_law_rule_here", "_law_other"] := ⟨_, _, fun_mk (st := s_l_back_right) l_l_back_right c_l_back_right k_l_back_right, PySem.W.mg_of X G a_l_back_right, (fun_mk (st := s_l_back_right) l_l_back_right c_l_back_right k_l_back_right).binds (ps := ["_law_deck_here", "_law_rule_here", "_law_other"]) fun _ _ _ _ _ _ us hl => match us, hl with | [_, _, _], _ => rfl⟩
  have D_l_told : Df K mg "_law_told" s_l_told ["_law_rule_here"] := ⟨_, _, fun_mk (st := s_l_told) l_l_told c_l_told k_l_told, PySem.W.mg_of X G a_l_told, (fun_mk (st := s_l_told) l_l_told c_l_told k_l_told).binds (ps := ["_law_rule_here"]) fun _ _ _ _ _ _ us hl => match us, hl with | [_], _ => rfl⟩
  have D_law : Df K mg "law" s_law ["_law_script"] := ⟨_, _, fun_mk (st := s_law) l_law c_law k_law, PySem.W.mg_of X G a_law, (fun_mk (st := s_law) l_law c_law k_law).binds (ps := ["_law_script"]) fun _ _ _ _ _ _ us hl => match us, hl with | [_], _ => rfl⟩
  refine ⟨PySem.W.fnOf "law" "law" (defArgs s_law) (defBody s_law) (defScope s_law) .none kV_law dc_law pm_law an_law cd_law ct_law, fun s v => .of_eq rfl, fun base _ _ => ?_⟩
  have C_cycle_of : Cal l.prog w K mg base "cycle_of" ["items"] 1 (sp_cycle_of K) := ok_cycle_of T D_cycle_of
  have C_value_of : Cal l.prog w K mg base "value_of" ["rule", "x"] 1 (sp_value_of K) := ok_value_of T D_value_of
  have C_values_to : Cal l.prog w K mg base "values_to" ["rule", "count"] 1 (sp_values_to K) := ok_values_to T D_values_to
  have C_first_place : Cal l.prog w K mg base "first_place" ["table", "low", "y"] 1 (sp_first_place K) := ok_first_place T D_first_place
  have C_begin_of : Cal l.prog w K mg base "begin_of" ["rule"] 1 (sp_begin_of K) := ok_begin_of T D_begin_of
  have C_rise_in : Cal l.prog w K mg base "rise_in" ["rule", "turn"] 1 (sp_rise_in K) := ok_rise_in T D_rise_in
  have C_l_deck : Cal l.prog w K mg base "_law_deck" ["_law_script"] 1 (sp_l_deck K) := ok_l_deck T D_l_deck
  have C_l_draw : Cal l.prog w K mg base "_law_draw" ["_law_deck_here", "_law_many"] 1 (sp_l_draw K) := ok_l_draw T D_l_draw
  have C_l_value : Cal l.prog w K mg base "_law_value" ["_law_rule_here", "_law_x"] 1 (sp_l_value K) := ok_l_value T D_l_value
  have C_l_all_small : Cal l.prog w K mg base "_law_all_small" ["_law_rules"] 1 (sp_l_all_small K) := ok_l_all_small T D_l_all_small
  have C_shortest : Cal l.prog w K mg base "shortest" ["table", "period", "rise"] 2 (sp_shortest K) := ok_shortest T D_shortest C_cycle_of
  have C_least_for : Cal l.prog w K mg base "least_for" ["rule", "y"] 2 (sp_least_for K) := ok_least_for T D_least_for C_first_place
  have C_common_turn : Cal l.prog w K mg base "common_turn" ["one", "other"] 2 (sp_common_turn K) := ok_common_turn T D_common_turn C_begin_of
  have C_l_one : Cal l.prog w K mg base "_law_one" ["_law_deck_here", "_law_items"] 2 (sp_l_one K) := ok_l_one T D_l_one C_l_draw
  have C_l_repeats : Cal l.prog w K mg base "_law_repeats" ["_law_rule_here", "_law_step", "_law_more"] 2 (sp_l_repeats K) := ok_l_repeats T D_l_repeats C_l_value
  have X_check_told : CalX l.prog w K mg base "check_told" ["number"] 3 (sp_check_told cTL) := ok_check_told T XL D_check_told
  have C_last_above : Cal l.prog w K mg base "last_above" ["flat", "steep"] 3 (sp_last_above K) := ok_last_above T D_last_above C_rise_in C_values_to C_common_turn
  have C_l_least : Cal l.prog w K mg base "_law_least" ["_law_rule_here"] 3 (sp_l_least K) := ok_l_least T D_l_least C_l_value C_l_repeats
  have C_l_far : Cal l.prog w K mg base "_law_far" ["_law_deck_here", "_law_many"] 3 (sp_l_far K) := ok_l_far T D_l_far C_l_draw C_l_one
  have X_told : CalX l.prog w K mg base "told" ["table", "period", "rise"] 4 (sp_toldX cTL) := ok_told T D_told X_check_told C_shortest
  have X_inverse_rule : CalX l.prog w K mg base "inverse_rule" ["rule"] 4 (sp_inv cTL) := ok_inverse_rule T D_inverse_rule C_begin_of C_least_for X_check_told
  have C_inverse_rule := ok_inv0 X_inverse_rule
  have C_l_rule : Cal l.prog w K mg base "_law_rule" ["_law_deck_here", "_law_long", "_law_wide", "_law_tall"] 4 (sp_l_rule K) := ok_l_rule T D_l_rule C_l_least C_l_draw
  have C_l_pair_right : Cal l.prog w K mg base "_law_pair_right" ["_law_deck_here", "_law_rule_here", "_law_other"] 4 (sp_l_pair_right K) := ok_l_pair_right T D_l_pair_right C_value_of C_l_far
  have X_greater_values : CalX l.prog w K mg base "greater_values" ["one", "other", "count", "turn"] 5 (sp_greater cTL) := ok_greater_values T D_greater_values X_told C_rise_in C_values_to
  have X_then_rule : CalX l.prog w K mg base "then_rule" ["first", "second"] 5 (sp_then cTL) := ok_then_rule T D_then_rule C_begin_of C_least_for C_value_of C_values_to X_told
  have C_then_rule := ok_then0 X_then_rule
  have C_l_rising : Cal l.prog w K mg base "_law_rising" ["_law_deck_here", "_law_long", "_law_wide", "_law_tall"] 5 (sp_l_rising K) := ok_l_rising T D_l_rising C_l_least C_l_draw C_l_rule
  have C_l_told : Cal l.prog w K mg base "_law_told" ["_law_rule_here"] 5 (sp_l_told K) := ok_l_told T XO D_l_told X_inverse_rule
  have X_overtaking_rule : CalX l.prog w K mg base "overtaking_rule" ["steep", "flat"] 6 (sp_over cTL) := ok_overtaking_rule T D_overtaking_rule X_greater_values X_check_told C_last_above C_begin_of
  have X_best_rule : CalX l.prog w K mg base "best_rule" ["one", "other"] 7 (sp_best cTL) := ok_best_rule T D_best_rule X_overtaking_rule X_greater_values C_common_turn
  have C_best_rule := ok_best0 X_best_rule
  have C_l_back_right : Cal l.prog w K mg base "_law_back_right" ["_law_deck_here", "_law_rule_here", "_law_other"] 8 (sp_l_back_right K) := ok_l_back_right T D_l_back_right C_best_rule C_l_all_small C_then_rule C_l_far C_value_of C_inverse_rule
  exact ok_lawG T (fun_mk (st := s_law) l_law c_law k_law) C_then_rule C_l_all_small C_l_told C_l_back_right C_l_pair_right C_l_rising C_l_deck

end Sm
open PySem PySem.W PyProof.Rows in
set_option maxRecDepth 100000 in
set_option maxHeartbeats 0 in
theorem PySem.Challenge.cw_smallchange_k17_whole_inverses_holds : PySem.Challenge.rw_smallchange_k17_whole_inverses.Holds := by
  w_on; o_law; k_head; (case hw => w_witness2)
  k_fill
  refine Sm.walk_at_law (l := PySem.Challenge.rw_smallchange_k17_whole_inverses) (k := 9) (x := "_law_script") (sp := Sm.sp_law) rfl rfl ⟨rfl, by decide, by decide⟩ (fun w h Y => PySem.W.kIn_of Y) ?F (fun _ _ a ns hl hS => ⟨a, ns, rfl, hS, hl, fun _ => rfl⟩)
  case F =>
    intro w mg fa h KX G hmg
    refine' Sm.all_mk KX G hmg ?a_shortest ?l_shortest ?c_shortest ?k_shortest ?a_cycle_of ?l_cycle_of ?c_cycle_of ?k_cycle_of ?a_told ?l_told ?c_told ?k_told ?a_check_told ?l_check_told ?c_check_told ?k_check_told ?a_value_of ?l_value_of ?c_value_of ?k_value_of ?a_values_to ?l_values_to ?c_values_to ?k_values_to ?a_least_for ?l_least_for ?c_least_for ?k_least_for ?a_first_place ?l_first_place ?c_first_place ?k_first_place ?a_begin_of ?l_begin_of ?c_begin_of ?k_begin_of ?a_rise_in ?l_rise_in ?c_rise_in ?k_rise_in ?a_common_turn ?l_common_turn ?c_common_turn ?k_common_turn ?a_best_rule ?l_best_rule ?c_best_rule ?k_best_rule ?a_overtaking_rule ?l_overtaking_rule ?c_overtaking_rule ?k_overtaking_rule ?a_greater_values ?l_greater_values ?c_greater_values ?k_greater_values ?a_last_above ?l_last_above ?c_last_above ?k_last_above ?a_then_rule ?l_then_rule ?c_then_rule ?k_then_rule ?a_inverse_rule ?l_inverse_rule ?c_inverse_rule ?k_inverse_rule ?a_l_deck ?l_l_deck ?c_l_deck ?k_l_deck ?a_l_draw ?l_l_draw ?c_l_draw ?k_l_draw ?a_l_one ?l_l_one ?c_l_one ?k_l_one ?a_l_value ?l_l_value ?c_l_value ?k_l_value ?a_l_repeats ?l_l_repeats ?c_l_repeats ?k_l_repeats ?a_l_least ?l_l_least ?c_l_least ?k_l_least ?a_l_rule ?l_l_rule ?c_l_rule ?k_l_rule ?a_l_all_small ?l_l_all_small ?c_l_all_small ?k_l_all_small ?a_l_rising ?l_l_rising ?c_l_rising ?k_l_rising ?a_l_far ?l_l_far ?c_l_far ?k_l_far ?a_l_pair_right ?l_l_pair_right ?c_l_pair_right ?k_l_pair_right ?a_l_back_right ?l_l_back_right ?c_l_back_right ?k_l_back_right ?a_l_told ?l_l_told ?c_l_told ?k_l_told ?a_law ?l_law ?c_law ?k_law ?a_cCE ?a_cTL ?x_TL ?f_sa ?f_ga ?f_gg ?f_no ?f_iC ?f_cl ?t_fB ?t_TL ?k_TL ?e_TL ?v_TL ?s_TL ?h_TL ?m_TL ?g_cl ?t_cl ?l_fB ?c_fB ?k_fB ?z_abs ?z_int ?z_len ?z_list ?z_max ?z_range ?z_tuple ?g_gcd ?g_lcm ?g_MAX_TOLD
    (case a_shortest => k_is)
    (case l_shortest => k_is)
    (case c_shortest => k_is)
    (case k_shortest => k_is)
    (case a_cycle_of => k_is)
    (case l_cycle_of => k_is)
    (case c_cycle_of => k_is)
    (case k_cycle_of => k_is)
    (case a_told => k_is)
    (case l_told => k_is)
    (case c_told => k_is)
    (case k_told => k_is)
    (case a_check_told => k_is)
    (case l_check_told => k_is)
    (case c_check_told => k_is)
    (case k_check_told => k_is)
    (case a_value_of => k_is)
    (case l_value_of => k_is)
    (case c_value_of => k_is)
    (case k_value_of => k_is)
    (case a_values_to => k_is)
    (case l_values_to => k_is)
    (case c_values_to => k_is)
    (case k_values_to => k_is)
    (case a_least_for => k_is)
    (case l_least_for => k_is)
    (case c_least_for => k_is)
    (case k_least_for => k_is)
    (case a_first_place => k_is)
    (case l_first_place => k_is)
    (case c_first_place => k_is)
    (case k_first_place => k_is)
    (case a_begin_of => k_is)
    (case l_begin_of => k_is)
    (case c_begin_of => k_is)
    (case k_begin_of => k_is)
    (case a_rise_in => k_is)
    (case l_rise_in => k_is)
    (case c_rise_in => k_is)
    (case k_rise_in => k_is)
    (case a_common_turn => k_is)
    (case l_common_turn => k_is)
    (case c_common_turn => k_is)
    (case k_common_turn => k_is)
    (case a_best_rule => k_is)
    (case l_best_rule => k_is)
    (case c_best_rule => k_is)
    (case k_best_rule => k_is)
    (case a_overtaking_rule => k_is)
    (case l_overtaking_rule => k_is)
    (case c_overtaking_rule => k_is)
    (case k_overtaking_rule => k_is)
    (case a_greater_values => k_is)
    (case l_greater_values => k_is)
    (case c_greater_values => k_is)
    (case k_greater_values => k_is)
    (case a_last_above => k_is)
    (case l_last_above => k_is)
    (case c_last_above => k_is)
    (case k_last_above => k_is)
    (case a_then_rule => k_is)
    (case l_then_rule => k_is)
    (case c_then_rule => k_is)
    (case k_then_rule => k_is)
    (case a_inverse_rule => k_is)
    (case l_inverse_rule => k_is)
    (case c_inverse_rule => k_is)
    (case k_inverse_rule => k_is)
    (case a_l_deck => k_is)
    (case l_l_deck => k_is)
    (case c_l_deck => k_is)
    (case k_l_deck => k_is)
    (case a_l_draw => k_is)
    (case l_l_draw => k_is)
    (case c_l_draw => k_is)
    (case k_l_draw => k_is)
    (case a_l_one => k_is)
    (case l_l_one => k_is)
    (case c_l_one => k_is)
    (case k_l_one => k_is)
    (case a_l_value => k_is)
    (case l_l_value => k_is)
    (case c_l_value => k_is)
    (case k_l_value => k_is)
    (case a_l_repeats => k_is)
    (case l_l_repeats => k_is)
    (case c_l_repeats => k_is)
    (case k_l_repeats => k_is)
    (case a_l_least => k_is)
    (case l_l_least => k_is)
    (case c_l_least => k_is)
    (case k_l_least => k_is)
    (case a_l_rule => k_is)
    (case l_l_rule => k_is)
    (case c_l_rule => k_is)
    (case k_l_rule => k_is)
    (case a_l_all_small => k_is)
    (case l_l_all_small => k_is)
    (case c_l_all_small => k_is)
    (case k_l_all_small => k_is)
    (case a_l_rising => k_is)
    (case l_l_rising => k_is)
    (case c_l_rising => k_is)
    (case k_l_rising => k_is)
    (case a_l_far => k_is)
    (case l_l_far => k_is)
    (case c_l_far => k_is)
    (case k_l_far => k_is)
    (case a_l_pair_right => k_is)
    (case l_l_pair_right => k_is)
    (case c_l_pair_right => k_is)
    (case k_l_pair_right => k_is)
    (case a_l_back_right => k_is)
    (case l_l_back_right => k_is)
    (case c_l_back_right => k_is)
    (case k_l_back_right => k_is)
    (case a_l_told => k_is)
    (case l_l_told => k_is)
    (case c_l_told => k_is)
    (case k_l_told => k_is)
    (case a_law => k_is)
    (case l_law => k_is)
    (case c_law => k_is)
    (case k_law => k_is)
    (case a_cCE => first | k_is | rfl | decide +kernel)
    (case a_cTL => first | k_is | rfl | decide +kernel)
    (case x_TL => first | k_is | rfl | decide +kernel)
    (case f_sa => first | k_is | rfl | decide +kernel)
    (case f_ga => first | k_is | rfl | decide +kernel)
    (case f_gg => first | k_is | rfl | decide +kernel)
    (case f_no => first | k_is | rfl | decide +kernel)
    (case f_iC => first | k_is | rfl | decide +kernel)
    (case f_cl => first | k_is | rfl | decide +kernel)
    (case t_fB => first | k_is | rfl | decide +kernel)
    (case t_TL => first | k_is | rfl | decide +kernel)
    (case k_TL => first | k_is | rfl | decide +kernel)
    (case e_TL => first | k_is | rfl | decide +kernel)
    (case v_TL => first | k_is | rfl | decide +kernel)
    (case s_TL => first | k_is | rfl | decide +kernel)
    (case h_TL => first | k_is | rfl | decide +kernel)
    (case m_TL => first | k_is | rfl | decide +kernel)
    (case g_cl => first | k_is | rfl | decide +kernel)
    (case t_cl => first | k_is | rfl | decide +kernel)
    (case l_fB => first | k_is | rfl | decide +kernel)
    (case c_fB => first | k_is | rfl | decide +kernel)
    (case k_fB => first | k_is | rfl | decide +kernel)
    (case z_abs => k_is)
    (case z_int => k_is)
    (case z_len => k_is)
    (case z_list => k_is)
    (case z_max => k_is)
    (case z_range => k_is)
    (case z_tuple => k_is)
    (case g_gcd => k_is)
    (case g_lcm => k_is)
    (case g_MAX_TOLD => k_is)
