import PyProof.Rows.All
import Wide.All
import OpenK.AllK
import Wide.FinOn
import HandS.ForMost
import HandS.Wide
import HandS.Codes
import PyProof.ReprRoads
import HandS.IsInst
import HandS.Dict
import HandS.TupMul
import HandS.Gcd
import KE.KMathGC
import HandS.Conv
import HandS.Style
import HandS.TupAny
import PySem.Challenge.RW_smallchange_k76_desks_judged
set_option Elab.async false
set_option linter.all false
set_option maxRecDepth 100000
set_option maxHeartbeats 4000000
namespace Sm
open PySem PySem.Spec PyProof.Rows L2
/-! ### promises of defs where no repr is under way: as FnOk, with A's guards empty -/
structure FnG (P : Program) (w : World) (K : PySem.W.Frag) (mg : Str → Option Value) (base : Heap) (k : Nat) (f : Addr) (fd : FuncData) (ps : List Str) (sp : Sp) : Prop where
  len : ∀ vs H Q E, sp vs H Q E → vs.length = ps.length
  run : ∀ (A : Around) (outer : List Env) (s : Shared) (H : Hp) (args : Args) (us : List Value) (vs : List V) (Q : VK) (E : XK), A.guards = some [] → Room k A →
    Env0 P w K mg base A outer s H → BindsTo s fd args (ps.zip us) → Vals vs us → sp vs H Q E → codeAny (model P w) A (.call (.ref f) args) (CR CX0 outer P w H s Q E) s
section
variable {P : Program} {w : World} {K : PySem.W.Frag} {mg : Str → Option Value} {base : Heap} {k : Nat} {f : Addr} {fd : FuncData} {ps : List Str} {sp : Sp}
theorem FnG.of (F : FnOk P w K mg base CX0 k f fd ps sp) : FnG P w K mg base k f fd ps sp :=
  ⟨F.len, fun A outer s H args us vs Q E _ hr e b v h => F.run A outer s H args us vs Q E hr e b v h⟩
theorem FnG.body {x : Str} {st : Stmt} {N : List Str} (F : Fun K x x st f fd) (S : FnScope N ps (defScope st)) (len : ∀ vs H Q E, sp vs H Q E → vs.length = ps.length)
    (hb : ∀ (cdv : Value) (A : Around) (outer : List Env) (s : Shared) (H : Hp) (vs : List V) (Q : VK) (E : XK), A.guards = some [] → Room k (A.deeper (envOfC x (defScope st) s.heap.objs.size f cdv)) → sp vs H Q E →
      ∃ t, PSs (cxOf CX0 P w K mg base N x (defScope st) f cdv A outer s H E).nox (defBody st) t ∧ t { nx := fun _ H' => Q .non H', rt := Q } (start N vs) H) : FnG P w K mg base (k + 1) f fd ps sp := by
  obtain ⟨oc, od, kV, doc, pm, an, cdv, ct, osl, efd, look, code⟩ := F.ex
  subst efd
  constructor
  · exact len
  intro A outer s H args us vs Q E guard room e0 bind rel want
  have inn : K.In s.heap := e0.mod.kin.keeps fun b o e => (e0.bs b o e).1
  have nolim : s.heap.NoLimit := e0.mod.nolimit.keeps fun b o e => (e0.bs b o e).1
  refine codeAny_call_function room.depth (inn _ _ look) rfl S.co S.gen rfl (PySem.W.codeRec_of inn code) (bind _ _ _ _ ?_)
  refine wpAny_newFunctionEnv_cells S.kind ?_ ?_
  · rintro ⟨n, v⟩ there
    have := S.par n (List.of_mem_zip there).1
    cases this with
    | inl q => exact .inl q
    | inr q => exact .inr ⟨q, PySem.W.cellsFrom_some _ _ _ (.inl q)⟩
  · intro env eenv s1 laid
    subst eenv
    refine ⟨nolim.keeps laid.toInCall.keep, codeAny_func ?_⟩
    obtain ⟨t, der, goal⟩ := hb cdv A outer s H vs Q E guard (room.deeper _) want
    have I := inv_start (CX := CX0) (E := E) S room.hd e0 (len _ _ _ _ want) rel laid
    refine wpAny_mono (der.nox.run [] s1 (start N vs) H _ I goal) (fun out s' got => ?_) fun e s' got => got
    match out, got with
    | .ret u, ⟨v, σ', H', J, rv, q⟩ => exact ⟨v, H', J.os, J.bare, J.base, J.hok, rv, q⟩
    | .next, ⟨σ', H', J, q⟩ => exact ⟨V.non, H', J.os, J.bare, J.base, J.hok, rfl, q⟩
    | .brk, ⟨_, _, _, q⟩ => exact q.elim
    | .cont, ⟨_, _, _, q⟩ => exact q.elim
end
section
variable {X : Cx} {k : Nat} {f : Addr} {fd : FuncData} {ps : List Str} {sp : Sp} {x : Str} {p pos : Pos} {e : Expr} {es : List Expr} {t : TA}
theorem pe_callG (F : FnG X.prog X.w X.K X.mg X.base k f fd ps sp) (gu : X.A.guards = some []) (hr : Room k X.A) (hg : Gl X x) (hm : X.mg x = some (.ref f)) (hk : PySem.W.keepIn X.K (.ref f) = true) (hb : Binds X.K fd ps [])
    (ha : PA X (e :: es) t) (hdb : (x == ("__debug__" : Str)) = false := by decide) (he : starEach (e :: es) X.env = (false, eval e X.env) :: starEach es X.env := by rfl) (hpl : (backTo pos (starEach es X.env)).any (·.1) = false := by rfl) :
    PE X (.Call (.Name x p) (e :: es) [] pos) (tCall sp [] E0 t) := by
  constructor
  intro pins s σ H Q I want
  refine wpAny_Call_Name_kw (ld_glob I hg hm ?_ hdb)
  refine PySem.W.callWith_K (h₀ := X.base) I.ok.mod.kin hk (thn (ha.run pos pins s σ H _ I want) ?_) he hpl
  rintro us s1 ⟨vs, H1, I1, rel, q⟩
  refine ⟨I1.kIn, ?_⟩
  have q : sp vs H1 Q E0 := by
    have q : sp (vs ++ []) H1 Q E0 := q
    rw [List.append_nil] at q
    exact q
  have b := hb s1 us I1.kIn (by rw [List.append_nil, ← rel.length]; exact F.len _ _ _ _ q)
  rw [List.append_nil] at b
  refine wpAny_call (codeAny_mono (F.run X.A X.stack s1 H1 ⟨us, []⟩ us vs Q E0 gu hr I1.env0 b rel q) ?_)
  rintro (e | out) s' got
  · exact got.elim
  · match out, got with
    | .ret u, got => exact I1.after got
    | .next, got => exact got.elim
    | .brk, got => exact got.elim
    | .cont, got => exact got.elim
/-- repr of data at any depth -/
theorem call_repr_data (gu : X.A.guards = some []) (room : ∃ k, Room k X.A) : CallR X (.builtin "repr") (fun xs H Q => ∃ a d, xs = [.ref a] ∧ Dp X.K H (.ref a) d ∧ PyData.showable d = true ∧ PyData.hasDict d = false ∧ d.depth ≤ 60 ∧ d.shown.length ≤ sizeLine ∧ Q (.str d.shown) H) := by
  intro pins s σ H xs us Q I rel want
  obtain ⟨a, d, rfl, data, sh, nd, dep, len, q⟩ := want
  obtain ⟨u, rfl, ru⟩ := vals1 rel
  obtain ⟨as, reads⟩ := Dp.reads I d _ u data ru
  cases ru
  obtain ⟨k, room⟩ := room
  have un := room.un
  exact repr_of_reads' reads sh (PyData.noDict_hsm nd) gu (by omega) (fun _ _ e => e) (fun h' v tk keep => ⟨.str d.shown, H, I.kept keep, ⟨_, rfl⟩, q⟩) len
end
/-! ### the law's own call, at the caller's place -/
theorem law_at {P : Program} {w : World} {K : PySem.W.Frag} {mg mb : Str → Option Value} {k : Nat} {fa a : Addr} {fd : FuncData} {x : Str} {sp : Sp} {s₁ : Shared} {vs : List Value} {ns : List Int}
    (KX : K.In s₁.heap) (hns : s₁.heap.Ns mainGlobals mg) (hb : s₁.heap.Ns builtinsNs mb) (hbb : ∀ x : Str, x ≠ "__name__" → mb x = bootBuiltins x) (hlim : s₁.heap.NoLimit) (hg : s₁.gens = #[])
    (ha : s₁.heap.get? a = some { cls := .type "list", data := .seq vs.toArray }) (hi : IntsAre vs ns) (hl : ns.length ≤ sizeLine) (hr : Room k callerA)
    (F : ∀ base : Heap, K.In base → base.Ns mainGlobals mg → FnG P w K mg base k fa fd [x] sp) (hbind : ∀ (s : Shared) (u : Value), BindsTo s fd ⟨[u], []⟩ [(x, u)])
    (hsp : ∀ H : Hp, SqL K H a (ns.map V.int) → sp [.ref a] H (fun v _ => v = .bl true) E0) :
    codeAny (model P w) callerA (.call (.ref fa) ⟨[.ref a], []⟩) (fun r s' => r = .ok (.ret (.bool true)) ∧ OldK s₁.heap s'.heap ∧ s'.os = s₁.os ∧ AllBare s'.gens) s₁ := by
  have ivs := vals_ints hi
  -- what is tracked: the script, if the module does not hold it itself
  obtain ⟨H, seq, ok, only, free⟩ : ∃ H : Hp, SqL K H a (ns.map V.int) ∧ HOk P w H s₁.heap ∧ (∀ b u, H b = some u → b = a ∧ u = .frz { cls := .type "list", data := .seq vs.toArray } (.lst (ns.map V.int))) ∧ ∀ b u, H b = some u → K.lookup b = none := by
    cases look : K.lookup a with
    | some o =>
      have same := KX a o look
      rw [ha] at same
      injection same with same
      subst same
      have empty : ∀ {u : HO}, (none : Option HO) = some u → False := fun z => nomatch z
      refine ⟨fun _ => none, .inr ⟨_, vs.toArray, _, look, rfl, rfl, rfl, ?_, ?_⟩, fun b u z => (empty z).elim, fun b u z => (empty z).elim, fun b u z => (empty z).elim⟩
      · rw [List.size_toArray, hi.length]
        exact hl
      · simpa using ivs
    | none =>
      have at_a : ∀ b u, (fun b => if b = a then some (HO.frz { cls := .type "list", data := .seq vs.toArray } (.lst (ns.map V.int))) else none : Hp) b = some u → b = a ∧ u = .frz { cls := .type "list", data := .seq vs.toArray } (.lst (ns.map V.int)) := by
        intro b u z
        by_cases e : b = a
        · have z := (if_pos e).symm.trans z
          exact ⟨e, (Option.some.inj z).symm⟩
        · exact nomatch (if_neg e).symm.trans z
      refine ⟨_, .inl (.inr ⟨_, if_pos rfl⟩), fun b u z => ?_, at_a, fun b u z => ?_⟩
      · obtain ⟨rfl, rfl⟩ := at_a b u z
        exact ⟨ha, by rw [List.length_map]; exact hl, vs, _, ivs, ha⟩
      · rw [(at_a b u z).1]
        exact look
  have stays : ∀ {b : Addr} {o : Obj}, s₁.heap.get? b = some o → (∀ u, H b ≠ some u) → (hidT s₁.heap H).get? b = some o := fun {b o} e no => hidT_get e (by
    cases z : H b with
    | none => rfl
    | some u => exact (no u z).elim)
  have spaces : ∀ {b : Addr} {m : Str → Option Value}, s₁.heap.Ns b m → (hidT s₁.heap H).Ns b m := by
    rintro b m ⟨o, es, ep, there, data, rest⟩
    refine ⟨o, es, ep, stays there fun u z => ?_, data, rest⟩
    rw [(only b u z).1, ha] at there
    injection there with there
    subst there
    exact nomatch data
  have inn : K.In (hidT s₁.heap H) := fun b o e => stays (KX b o e) fun u z => by
    rw [free b u z] at e
    exact nomatch e
  have mod : Mod K mg (hidT s₁.heap H) := by
    obtain ⟨mc, c1, c2⟩ := hlim
    exact ⟨inn, spaces hns, ⟨mb, spaces hb, hbb⟩, mc, spaces c1, c2⟩
  have e0 : Env0 P w K mg (hidT s₁.heap H) callerA [] s₁ H := by
    refine ⟨rfl, mod, fun b o e => of_hidT e, Nat.le_of_eq (hidT_size _ _), trivial, ?_, ok, .of_eq hg⟩
    intro b q
    exact absurd q (List.not_mem_nil (a := b))
  refine codeAny_mono ((F _ inn (spaces hns)).run callerA [] s₁ H ⟨[.ref a], []⟩ [.ref a] [.ref a] _ _ rfl hr e0 (hbind s₁ (.ref a)) (.cons rfl .nil) (hsp H seq)) ?_
  rintro (e | out) s' got
  · exact got.elim
  · match out, got with
    | .next, got => exact got.elim
    | .brk, got => exact got.elim
    | .cont, got => exact got.elim
    | .ret u, ⟨v, H', os, bare, un, ok', rel, q⟩ =>
      have q : v = V.bl true := q
      subst q
      have rel : u = Value.bool true := rel
      subst rel
      refine ⟨rfl, .of_keep fun b o e => ?_, os, bare⟩
      cases z : H b with
      | none => exact un.keep b o e z (List.not_mem_nil (a := b)) (List.not_mem_nil (a := b))
      | some u =>
        obtain ⟨rfl, rfl⟩ := only b u z
        have now := (ok' _ _ (un.frzs _ _ _ z)).1
        rw [ha] at e
        injection e with e
        rw [← e]
        exact now
theorem walk_at_law {l : PySem.W.OpenLaw} {k : Nat} {q : Program} {loose : List Str} {XP : (Str → Option Value) → Heap → Prop} {YP : World → Heap → Prop} {d : DefRec} {K : Params → PySem.W.Frag} {sp : PySem.W.Frag → Sp} {x : Str}
    (hn : l.most = some 63) (hdf : d.params.defaults = []) (hr : Room k callerA) (hY : ∀ (w : World) (h : Heap), YP w h → (K w.params).In h)
    (F : ∀ (w : World) (mg : Str → Option Value) (fa : Addr) (h : Heap), (K w.params).In h → h.Ns mainGlobals mg → mg d.name = some (.ref fa) →
      ∃ fd : FuncData, (∀ (s : Shared) (u : Value), BindsTo s fd ⟨[u], []⟩ [(x, u)]) ∧ ∀ base : Heap, (K w.params).In base → base.Ns mainGlobals mg → FnG l.prog w (K w.params) mg base k fa fd [x] (sp (K w.params)))
    (hsp : ∀ (K : PySem.W.Frag) (H : Hp) (a : Addr) (ns : List Int), ns.length ≤ 63 → SqL K H a (ns.map V.int) → sp K [.ref a] H (fun v _ => v = .bl true) E0) :
    PySem.W.WalkO q loose XP YP l.row.toRowW d [] (fun f vs => PySem.call f vs) := by
  refine Att.attach_call hn hdf ?_
  intro w s₀ s₁ mg mb fa o pm cd doc a vs ns G Y ho hd hcd hmg hobj hints hlen hg
  obtain ⟨fd, bind, each⟩ := F w mg fa _ (hY w _ Y) G.T.g hmg
  exact law_at (hY w _ Y) G.T.g G.T.b G.T.builtins G.T.nolimit hg hobj hints (Nat.le_trans hlen (by decide)) hr each bind fun H sq => hsp (K w.params) H a ns hlen sq
end Sm

set_option Elab.async false
set_option linter.all false
set_option maxRecDepth 100000
set_option maxHeartbeats 4000000
namespace Sm
open PySem PySem.Spec PyProof.Rows L2
section
variable {P : Program} {w : World} {K : PySem.W.Frag} {mg : Str → Option Value} {base : Heap}
def Df (K : PySem.W.Frag) (mg : Str → Option Value) (x : Str) (st : Stmt) (ps : List Str) : Prop :=
  ∃ (f : Addr) (fd : FuncData), Fun K x x st f fd ∧ mg x = some (.ref f) ∧ Binds K fd ps []
def Cal (P : Program) (w : World) (K : PySem.W.Frag) (mg : Str → Option Value) (base : Heap) (x : Str) (ps : List Str) (k : Nat) (sp : Sp) : Prop :=
  ∃ (f : Addr) (fd : FuncData), FnOk P w K mg base CX0 k f fd ps sp ∧ mg x = some (.ref f) ∧ PySem.W.keepIn K (.ref f) = true ∧ Binds K fd ps []
theorem Df.cal {x : Str} {st : Stmt} {N ps : List Str} {k : Nat} {sp : Sp} (D : Df K mg x st ps) (S : FnScope N ps (defScope st)) (len : ∀ vs H Q E, sp vs H Q E → vs.length = ps.length)
    (hbody : ∀ (f : Addr) (cdv : Value) (A : Around) (outer : List Env) (s : Shared) (H : Hp) (vs : List V) (Q : VK) (E : XK), Room k (A.deeper (envOfC x (defScope st) s.heap.objs.size f cdv)) → sp vs H Q E →
      ∃ t, PSs (cxOf CX0 P w K mg base N x (defScope st) f cdv A outer s H E).nox (defBody st) t ∧ t { nx := fun _ H' => Q .non H', rt := Q } (start N vs) H) : Cal P w K mg base x ps (k + 1) sp := by
  obtain ⟨f, fd, F, m, b⟩ := D
  exact ⟨f, fd, F.ok S len (fun cdv A outer s H vs Q E hr h => hbody f cdv A outer s H vs Q E hr h), m, F.kp, b⟩
theorem same_upd {H : Hp} {p : Addr} {o : HO} (h : H p = none) : Same H (upd H p o) := fun b x e => by
  rw [upd_ne (ne_of_none e h)]
  exact e
theorem iteP {p A B : Prop} [Decidable p] (h : p) (a : A) : if decide p = true then A else B := by
  rw [decide_eq_true h]
  exact iteT a
theorem iteN {p A B : Prop} [Decidable p] (h : ¬ p) (b : B) : if decide p = true then A else B := by
  rw [decide_eq_false h]
  exact iteF b
theorem iteNP {p A B : Prop} [Decidable p] (h : p) (b : B) : if (!decide p) = true then A else B := by
  rw [decide_eq_true h]
  exact iteF b
theorem iteNN {p A B : Prop} [Decidable p] (h : ¬ p) (a : A) : if (!decide p) = true then A else B := by
  rw [decide_eq_false h]
  exact iteT a
theorem ite3 {p A B : Prop} [Decidable p] (h1 : p → A) (h2 : ¬ p → B) : if decide p = true then A else B := by
  by_cases h : p
  · exact iteP h (h1 h)
  · exact iteN h (h2 h)
theorem fmod_pos {a b : Int} (h : 0 < b) : a.fmod b = a % b := Int.fmod_eq_emod_of_nonneg a (by omega)
end
/-! ### the deck -/
structure Deck (H : Hp) (p l : Addr) (n : Int) : Prop where
  hp : H p = some (.lst [.ref l, .int n])
  hl : ∃ cells : List Int, H l = some (.lst (cells.map V.int)) ∧ (∀ c ∈ cells, 0 ≤ c) ∧ cells.length ≤ 63
theorem deck_ne {l : Addr} {n : Int} {cells : List Int} : HO.lst [.ref l, .int n] ≠ HO.lst (cells.map V.int) := by
  intro q
  injection q with q
  cases cells with
  | nil => cases q
  | cons c r => cases (List.cons.inj q).1
/-- all but the deck is as it was -/
def Fr (p l : Addr) (H H' : Hp) : Prop := ∀ b o, b ≠ p → b ≠ l → H b = some o → H' b = some o
theorem Fr.trans {p l : Addr} {H H1 H2 : Hp} (a : Fr p l H H1) (b : Fr p l H1 H2) : Fr p l H H2 := fun c o h1 h2 h => b c o h1 h2 (a c o h1 h2 h)
theorem Same.fr {p l : Addr} {H H' : Hp} (s : Same H H') : Fr p l H H' := fun b o _ _ h => s b o h
theorem Deck.same {H H' : Hp} {p l : Addr} {n : Int} (D : Deck H p l n) (s : Same H H') : Deck H' p l n := by
  obtain ⟨cells, hl, hc⟩ := D.hl
  exact ⟨s _ _ D.hp, cells, s _ _ hl, hc⟩
theorem Fr.tup {H H' : Hp} {p l b : Addr} {n : Int} {xs : List V} (f : Fr p l H H') (D : Deck H p l n) (h : H b = some (.tup xs)) : H' b = some (.tup xs) := by
  obtain ⟨cells, hl, hc⟩ := D.hl
  exact f b _ (ne_of h D.hp (by intro q; cases q)) (ne_of h hl (by intro q; cases q)) h
def sp_l_deck (K : PySem.W.Frag) : Sp := fun vs H Q _ => ∃ (a : Addr) (ns : List Int), vs = [.ref a] ∧ SqL K H a (ns.map V.int) ∧ ns.length ≤ 63 ∧ ∀ H' p l, Same H H' → Deck H' p l 0 → Q (.ref p) H'
def sp_l_draw (K : PySem.W.Frag) : Sp := fun vs H Q _ => ∃ (p l : Addr) (n m : Int), vs = [.ref p, .int m] ∧ Deck H p l n ∧ 0 ≤ n ∧ n ≤ 1000000 ∧ 0 < m ∧ m ≤ 1000000000000000000000000000000000000000000000000000000000000 ∧
  ∀ r H', 0 ≤ r → r < m → Fr p l H H' → Deck H' p l (n + 1) → Q (.int r) H'
def sp_l_one (K : PySem.W.Frag) : Sp := fun vs H Q _ => ∃ (p l b : Addr) (n : Int) (xs : List V), vs = [.ref p, .ref b] ∧ Deck H p l n ∧ 0 ≤ n ∧ n ≤ 1000000 ∧ H b = some (.lst xs) ∧ b ≠ p ∧ b ≠ l ∧ 0 < xs.length ∧ xs.length ≤ 1000 ∧
  ∀ x H', x ∈ xs → Fr p l H H' → Deck H' p l (n + 1) → Q x H'
theorem cut63 {ns : List Int} (h : ns.length ≤ 63) : cutV (ns.map V.int) none (some 63) = ns.map V.int := by
  unfold cutV
  rw [HT.sIx_none, show HT.sIx (ns.map V.int).length (ns.map V.int).length (some 63) = min 63 (ns.map V.int).length from HT.sIx_nat _ _ 63]
  rw [List.length_map, Nat.min_eq_right h, List.drop_zero]
  exact List.take_of_length_le (by rw [List.length_map]; omega)
def absI (n : Int) : Int := if n < 0 then -n else n
theorem absI_pos (n : Int) : 0 ≤ absI n := by
  unfold absI
  split <;> omega
theorem div_draw {c m : Int} (h0 : 0 < m) (h : m ≤ 1000000000000000000000000000000000000000000000000000000000000) : CDivW c m :=
  wide_div (b := 300) h0 (by omega) (by decide) (by decide)
theorem cut_all {xs : List V} {n : Nat} : cutV xs none (some (n : Int)) = xs.take n := by
  unfold cutV
  rw [HT.sIx_none, HT.sIx_nat, List.drop_zero, Nat.sub_zero]
  rcases Nat.le_total n xs.length with h | h
  · rw [Nat.min_eq_left h]
  · rw [Nat.min_eq_right h, List.take_length, List.take_of_length_le h]
theorem ne_new {H : Hp} {p b : Addr} {o : HO} (h : H p = some o) (n : H b = none) : b ≠ p := (ne_of_none h n).symm
/-- what the deck's second list is not -/
theorem Deck.lne {H : Hp} {p l b : Addr} {n : Int} (D : Deck H p l n) (h : H b = none) : b ≠ p ∧ b ≠ l := by
  obtain ⟨cells, hl, hc⟩ := D.hl
  exact ⟨ne_new D.hp h, ne_new hl h⟩
section
variable {X : Cx}
/-- repr of an int or None -/
theorem call_repr_some : CallR X (.builtin "repr") (fun xs H Q => (∃ i, xs = [.int i] ∧ i.natAbs.log2 < 1920 ∧ Q (.str (toString i)) H) ∨ (xs = [.non] ∧ Q (.str "None") H)) := by
  intro pins s σ H xs us Q I r h
  rcases h with ⟨i, rfl, hz, q⟩ | ⟨rfl, q⟩
  · obtain ⟨u, rfl, t, rfl⟩ := vals1 r
    exact PySem.P.repr_of_int hz ⟨.str _, H, I.tok _, ⟨_, rfl⟩, q⟩
  · obtain ⟨u, rfl, rfl⟩ := vals1 r
    exact PySem.P.repr_of_none ⟨.str _, H, I.tok _, ⟨_, rfl⟩, q⟩
def dataI (ns : List Int) : PyData := .list (ns.map PyData.int)
theorem dp_ints {K : PySem.W.Frag} {H : Hp} : ∀ ns : List Int, DpAll K H (ns.map V.int) (ns.map PyData.int)
  | [] => .nil
  | n :: ns => .cons (.int n) (dp_ints ns)
theorem showable_ints : ∀ {ns : List Int}, (∀ n ∈ ns, n.natAbs.log2 < 1920) → PyData.showableAll (ns.map PyData.int) = true
  | [], _ => rfl
  | n :: ns, h => by
    have a := h n (List.mem_cons_self ..)
    have b := showable_ints (ns := ns) fun m hm => h m (List.mem_cons_of_mem _ hm)
    simp only [List.map_cons, PyData.showableAll, PyData.showable, decide_eq_true a, b, Bool.and_self]
theorem hasDict_ints : ∀ ns : List Int, PyData.hasDictAll (ns.map PyData.int) = false
  | [] => rfl
  | n :: ns => by
    simp only [List.map_cons, PyData.hasDictAll, PyData.hasDict, hasDict_ints ns, Bool.or_self]
theorem depth_ints : ∀ ns : List Int, PyData.depthAll (ns.map PyData.int) ≤ 1
  | [] => by simp [PyData.depthAll]
  | n :: ns => by
    have := depth_ints ns
    simp only [List.map_cons, PyData.depthAll, PyData.depth]
    omega
theorem shown_ints : ∀ {ns : List Int}, (∀ n ∈ ns, n.natAbs.log2 < 1920) → ((PyData.shownAll (ns.map PyData.int)).map (·.length)).sum ≤ 1921 * ns.length ∧ (PyData.shownAll (ns.map PyData.int)).length = ns.length
  | [], _ => by simp [PyData.shownAll]
  | n :: ns, h => by
    have a := PyProof.Rows.int_text_len_1921 (h n (List.mem_cons_self ..))
    obtain ⟨b, c⟩ := shown_ints (ns := ns) fun m hm => h m (List.mem_cons_of_mem _ hm)
    simp only [List.map_cons, PyData.shownAll, PyData.shown, List.sum_cons, List.length_cons]
    omega
/-- repr of a list of ints -/
theorem call_repr_ints (gu : X.A.guards = some []) (room : ∃ k, Room k X.A) : CallR X (.builtin "repr") (fun xs H Q => ∃ a ns, xs = [.ref a] ∧ SqL X.K H a (ns.map V.int) ∧ ns.length ≤ 5000 ∧ (∀ n ∈ ns, n.natAbs.log2 < 1920) ∧ Q (.str (dataI ns).shown) H) := by
  intro pins s σ H xs us Q I r h
  obtain ⟨a, ns, rfl, hS, len, small, q⟩ := h
  refine call_repr_data gu room pins s σ H _ us Q I r ⟨a, dataI ns, rfl, .lst hS (dp_ints ns), ?_, ?_, ?_, ?_, q⟩
  · unfold dataI
    simp only [PyData.showable, showable_ints small]
  · unfold dataI
    simp only [PyData.hasDict, hasDict_ints]
  · have := depth_ints ns
    unfold dataI
    simp only [PyData.depth]
    omega
  · obtain ⟨s1, s2⟩ := shown_ints small
    have := listText_len_le (PyData.shownAll (ns.map PyData.int))
    unfold dataI
    simp only [PyData.shown]
    rw [sizeLine_eq]
    omega
end
end Sm

set_option maxHeartbeats 4000000
namespace Sm
/-! rules: a table that repeats -/
def vl (T : List Int) (p : Nat) (r : Int) (x : Nat) : Int :=
  if x < T.length then T.getD x 0 else T.getD (x - ((x - T.length) / p + 1) * p) 0 + (((x - T.length) / p + 1 : Nat) : Int) * r
structure RuleOk (T : List Int) (p : Nat) (r : Int) : Prop where
  p0 : 0 < p
  p1 : p ≤ T.length
  r0 : 0 ≤ r
  nn : ∀ i, i < T.length → 0 ≤ T.getD i 0
  mono : ∀ i, i + 1 < T.length → T.getD i 0 ≤ T.getD (i + 1) 0
  wrap : T.getD (T.length - 1) 0 ≤ T.getD (T.length - p) 0 + r
theorem place {n p x : Nat} (hp : 0 < p) (hpn : p ≤ n) (h : n ≤ x) : ((x - n) / p + 1) * p ≤ x ∧ n - p ≤ x - ((x - n) / p + 1) * p ∧ x - ((x - n) / p + 1) * p < n := by
  have a := Nat.div_add_mod (x - n) p
  have b := Nat.mod_lt (x - n) hp
  have c : ((x - n) / p + 1) * p = p * ((x - n) / p) + p := by rw [Nat.add_mul, Nat.one_mul, Nat.mul_comm]
  omega
theorem vl_lt {T : List Int} {p : Nat} {r : Int} {x : Nat} (h : x < T.length) : vl T p r x = T.getD x 0 := if_pos h
theorem vl_step {T : List Int} {p : Nat} {r : Int} {x : Nat} (hp : 0 < p) (hpn : p ≤ T.length) (h : T.length ≤ x) : vl T p r x = vl T p r (x - p) + r := by
  by_cases q : x - p < T.length
  · have e : (x - T.length) / p = 0 := Nat.div_eq_of_lt (by omega)
    rw [vl_lt q]
    unfold vl
    rw [if_neg (by omega), e]
    simp
  · have e : (x - T.length) / p = (x - p - T.length) / p + 1 := by
      rw [Nat.div_eq_sub_div hp (by omega), show x - T.length - p = x - p - T.length by omega]
    unfold vl
    rw [if_neg (by omega), if_neg q, e]
    have i : x - ((x - p - T.length) / p + 1 + 1) * p = x - p - ((x - p - T.length) / p + 1) * p := by
      rw [Nat.add_mul ((x - p - T.length) / p + 1) 1 p, Nat.one_mul]
      omega
    rw [i]
    have k : (((x - p - T.length) / p + 1 + 1 : Nat) : Int) * r = (((x - p - T.length) / p + 1 : Nat) : Int) * r + r := by
      rw [Int.natCast_add ((x - p - T.length) / p + 1) 1, Int.add_mul]
      simp
    rw [k, Int.add_assoc]
theorem vl_add {T : List Int} {p : Nat} {r : Int} {x : Nat} (hp : 0 < p) (hpn : p ≤ T.length) (h : T.length - p ≤ x) : vl T p r (x + p) = vl T p r x + r := by
  rw [vl_step hp hpn (by omega), Nat.add_sub_cancel]
theorem vl_addk {T : List Int} {p : Nat} {r : Int} {x : Nat} (hp : 0 < p) (hpn : p ≤ T.length) (h : T.length - p ≤ x) : ∀ k : Nat, vl T p r (x + k * p) = vl T p r x + (k : Int) * r
  | 0 => by simp
  | k + 1 => by
    have ih := vl_addk (r := r) hp hpn h k
    rw [show x + (k + 1) * p = x + k * p + p by rw [Nat.add_mul, Nat.one_mul, Nat.add_assoc], vl_add hp hpn (by omega), ih]
    rw [Int.natCast_add, Int.add_mul]
    simp
    omega
section
variable {T : List Int} {p : Nat} {r : Int}
theorem RuleOk.up (o : RuleOk T p r) : ∀ x, vl T p r x ≤ vl T p r (x + 1) := by
  intro x
  induction x using Nat.strongRecOn with
  | _ x ih =>
    have p0 := o.p0
    have p1 := o.p1
    by_cases a : x + 1 < T.length
    · rw [vl_lt a, vl_lt (by omega)]
      exact o.mono x a
    · by_cases b : x < T.length
      · rw [vl_lt b, vl_step p0 p1 (by omega), vl_lt (by omega)]
        have w := o.wrap
        rw [show x = T.length - 1 by omega]
        rw [show T.length - 1 + 1 - p = T.length - p by omega]
        exact w
      · rw [vl_step p0 p1 (by omega), vl_step (x := x + 1) p0 p1 (by omega)]
        have := ih (x - p) (by omega)
        rw [show x - p + 1 = x + 1 - p by omega] at this
        omega
theorem RuleOk.le (o : RuleOk T p r) {x y : Nat} (h : x ≤ y) : vl T p r x ≤ vl T p r y := by
  obtain ⟨k, rfl⟩ := Nat.le.dest h
  induction k with
  | zero => exact Int.le_refl _
  | succ k ih => exact Int.le_trans (ih (by omega)) (o.up _)
theorem RuleOk.pos (o : RuleOk T p r) (x : Nat) : 0 ≤ vl T p r x := by
  have a := o.le (Nat.zero_le x)
  have p0 := o.p0
  have p1 := o.p1
  rw [vl_lt (x := 0) (by omega)] at a
  have := o.nn 0 (by omega)
  omega
theorem RuleOk.row (o : RuleOk T p r) {i j : Nat} (h : i ≤ j) (hj : j < T.length) : T.getD i 0 ≤ T.getD j 0 := by
  have a := o.le h
  rw [vl_lt hj, vl_lt (by omega)] at a
  exact a
/-- the values of the last period repeat by s, increased by c -/
def Rep (T : List Int) (p : Nat) (r : Int) (s : Nat) (c : Int) : Prop := ∀ i, T.length - p ≤ i → i < T.length → vl T p r (i + s) = T.getD i 0 + c
theorem rep_all {s : Nat} {c : Int} (o : RuleOk T p r) (h : Rep T p r s c) : ∀ y, T.length - p ≤ y → vl T p r (y + s) = vl T p r y + c := by
  intro y
  induction y using Nat.strongRecOn with
  | _ y ih =>
    intro hy
    have p0 := o.p0
    have p1 := o.p1
    by_cases a : y < T.length
    · rw [vl_lt a]
      exact h y hy a
    · have e := ih (y - p) (by omega) (by omega)
      rw [vl_step (x := y) p0 p1 (by omega), vl_step (x := y + s) p0 p1 (by omega), show y + s - p = y - p + s by omega, e]
      omega
theorem rep_self (o : RuleOk T p r) : Rep T p r p r := fun i h1 h2 => by
  rw [vl_add o.p0 o.p1 h1, vl_lt h2]
theorem getD_take {n i : Nat} (h : i < n) : (T.take n).getD i 0 = T.getD i 0 := by
  rw [List.getD_eq_getElem?_getD, List.getD_eq_getElem?_getD, List.getElem?_take_of_lt h]
/-- the table cut: still a rule, with the same values -/
theorem cut_ok {a s : Nat} {c : Int} (o : RuleOk T p r) (hs : 0 < s) (ha : a + s ≤ T.length) (c0 : 0 ≤ c) (h : ∀ y, a ≤ y → vl T p r (y + s) = vl T p r y + c) : RuleOk (T.take (a + s)) s c := by
  have len : (T.take (a + s)).length = a + s := by rw [List.length_take]; omega
  refine ⟨hs, by omega, c0, fun i hi => ?_, fun i hi => ?_, ?_⟩
  · rw [getD_take (by omega)]
    exact o.nn i (by omega)
  · rw [getD_take (by omega), getD_take (by omega)]
    exact o.mono i (by omega)
  · rw [len, getD_take (by omega), getD_take (by omega), show a + s - s = a by omega]
    have e := h a (Nat.le_refl _)
    have u := o.up (a + s - 1)
    rw [show a + s - 1 + 1 = a + s by omega, e, vl_lt (by omega), vl_lt (by omega)] at u
    exact u
theorem cut_vl {a s : Nat} {c : Int} (hs : 0 < s) (ha : a + s ≤ T.length) (h : ∀ y, a ≤ y → vl T p r (y + s) = vl T p r y + c) : ∀ x, vl (T.take (a + s)) s c x = vl T p r x := by
  have len : (T.take (a + s)).length = a + s := by rw [List.length_take]; omega
  intro x
  induction x using Nat.strongRecOn with
  | _ x ih =>
    by_cases q : x < a + s
    · rw [vl_lt (by omega), vl_lt (by omega), getD_take q]
    · rw [vl_step hs (by omega) (by omega), ih (x - s) (by omega), ← h (x - s) (by omega), show x - s + s = x by omega]
/-- the least amount, or none -/
def IsLf (T : List Int) (p : Nat) (r : Int) (y : Int) : Option Nat → Prop
  | none => r = 0 ∧ T.getD (T.length - 1) 0 < y
  | some x => y ≤ vl T p r x ∧ ∀ z, z < x → vl T p r z < y
theorem lf_near {y : Int} {i : Nat} (hi : i < T.length) (h1 : y ≤ T.getD i 0) (h2 : ∀ j, j < i → T.getD j 0 < y) : IsLf T p r y (some i) :=
  ⟨by rw [vl_lt hi]; exact h1, fun z hz => by rw [vl_lt (by omega)]; exact h2 z hz⟩
theorem lf_far {y : Int} {i k : Nat} (o : RuleOk T p r) (k0 : 0 < k) (hk : T.getD (T.length - 1) 0 + ((k : Int) - 1) * r < y) (h0 : T.length - p ≤ i) (hi : i < T.length) (h1 : y - (k : Int) * r ≤ T.getD i 0)
    (h2 : ∀ j, T.length - p ≤ j → j < i → T.getD j 0 < y - (k : Int) * r) : IsLf T p r y (some (i + k * p)) := by
  have p0 := o.p0
  have p1 := o.p1
  refine ⟨?_, fun z hz => ?_⟩
  · rw [vl_addk p0 p1 h0, vl_lt hi]
    omega
  · have kp : p ≤ k * p := Nat.le_mul_of_pos_left p k0
    refine Int.lt_of_le_of_lt (o.le (show z ≤ i + k * p - 1 by omega)) ?_
    by_cases q : i = T.length - p
    · obtain ⟨k, rfl⟩ : ∃ j, k = j + 1 := ⟨k - 1, by omega⟩
      have e : i + (k + 1) * p - 1 = T.length - 1 + k * p := by
        rw [Nat.add_mul, Nat.one_mul] at kp ⊢
        omega
      rw [e, vl_addk p0 p1 (by omega), vl_lt (by omega)]
      have c : ((k + 1 : Nat) : Int) - 1 = (k : Int) := by omega
      rw [c] at hk
      exact hk
    · rw [show i + k * p - 1 = i - 1 + k * p by omega, vl_addk p0 p1 (by omega), vl_lt (by omega)]
      have := h2 (i - 1) (by omega) (by omega)
      omega
theorem lf_one {y : Int} {a b : Option Nat} (o : RuleOk T p r) (ha : IsLf T p r y a) (hb : IsLf T p r y b) : a = b := by
  have no : ∀ {x : Nat}, IsLf T p r y none → IsLf T p r y (some x) → False := by
    rintro x ⟨h1, h2⟩ ⟨h3, _⟩
    have p0 := o.p0
    have p1 := o.p1
    have all : ∀ x, vl T p r x ≤ T.getD (T.length - 1) 0 := by
      intro x
      induction x using Nat.strongRecOn with
      | _ x ih =>
        by_cases q : x < T.length
        · rw [vl_lt q]
          exact o.row (by omega) (by omega)
        · rw [vl_step p0 p1 (by omega)]
          have := ih (x - p) (by omega)
          omega
    have := all x
    omega
  match a, b, ha, hb with
  | none, none, _, _ => rfl
  | none, some x, ha, hb => exact (no ha hb).elim
  | some x, none, ha, hb => exact (no hb ha).elim
  | some x, some z, ⟨h1, h2⟩, ⟨h3, h4⟩ =>
    rcases Nat.lt_trichotomy x z with q | q | q
    · have := h4 x q
      omega
    · rw [q]
    · have := h2 z q
      omega
end
theorem div_cast {x n p : Nat} (h : n ≤ x) : ((x : Int) - (n : Int)) / (p : Int) + 1 = (((x - n) / p + 1 : Nat) : Int) := by
  rw [← Int.natCast_sub h]
  rfl
theorem ceil_lo {a r : Int} (hr : 0 < r) : a ≤ (a + r - 1) / r * r ∧ ((a + r - 1) / r - 1) * r < a := by
  have h1 := Int.mul_ediv_add_emod (a + r - 1) r
  have h2 := Int.emod_nonneg (a + r - 1) (show r ≠ 0 by omega)
  have h3 := Int.emod_lt_of_pos (a + r - 1) hr
  have e : (a + r - 1) / r * r = r * ((a + r - 1) / r) := Int.mul_comm _ _
  have e2 : ((a + r - 1) / r - 1) * r = r * ((a + r - 1) / r) - r := by rw [Int.sub_mul, Int.mul_comm]; omega
  omega
end Sm

set_option maxHeartbeats 4000000
namespace Sm
structure RuleW (T : List Int) (p : Nat) (r : Int) : Prop where
  p0 : 0 < p
  p1 : p ≤ T.length
  r0 : 0 ≤ r
theorem RuleOk.w {T : List Int} {p : Nat} {r : Int} (o : RuleOk T p r) : RuleW T p r := ⟨o.p0, o.p1, o.r0⟩
section
variable {T : List Int} {p : Nat} {r : Int}
theorem rep_allW {s : Nat} {c : Int} (o : RuleW T p r) (h : Rep T p r s c) : ∀ y, T.length - p ≤ y → vl T p r (y + s) = vl T p r y + c := by
  intro y
  induction y using Nat.strongRecOn with
  | _ y ih =>
    intro hy
    have p0 := o.p0
    have p1 := o.p1
    by_cases a : y < T.length
    · rw [vl_lt a]
      exact h y hy a
    · have e := ih (y - p) (by omega) (by omega)
      rw [vl_step (x := y) p0 p1 (by omega), vl_step (x := y + s) p0 p1 (by omega), show y + s - p = y - p + s by omega, e]
      omega
theorem rep_selfW (o : RuleW T p r) : Rep T p r p r := fun i h1 h2 => by
  rw [vl_add o.p0 o.p1 h1, vl_lt h2]
/-- a weak rule that does not fall within its table and behind it is a rule -/
theorem W_ok (o : RuleW T p r) (nn : ∀ i, i < T.length → 0 ≤ T.getD i 0) (h : ∀ x, x < T.length → T.getD x 0 ≤ vl T p r (x + 1)) : RuleOk T p r := by
  have p0 := o.p0
  have p1 := o.p1
  refine ⟨p0, p1, o.r0, nn, fun i hi => ?_, ?_⟩
  · have := h i (by omega)
    rw [vl_lt hi] at this
    exact this
  · have := h (T.length - 1) (by omega)
    rw [vl_step p0 p1 (by omega), show T.length - 1 + 1 - p = T.length - p by omega, vl_lt (by omega)] at this
    exact this
end
section
variable {T1 T2 : List Int} {p1 p2 : Nat} {r1 r2 : Int}
def gp (T1 : List Int) (p1 : Nat) (r1 : Int) (T2 : List Int) (p2 : Nat) (r2 : Int) (x : Nat) : Int := vl T1 p1 r1 x - vl T2 p2 r2 x
/-- the first amount at which the one is above, or none -/
def IsFst (T1 : List Int) (p1 : Nat) (r1 : Int) (T2 : List Int) (p2 : Nat) (r2 : Int) : Option Nat → Prop
  | none => ∀ x, gp T1 p1 r1 T2 p2 r2 x ≤ 0
  | some x => 0 < gp T1 p1 r1 T2 p2 r2 x ∧ ∀ z, z < x → gp T1 p1 r1 T2 p2 r2 z ≤ 0
theorem fst_one {a b : Option Nat} (ha : IsFst T1 p1 r1 T2 p2 r2 a) (hb : IsFst T1 p1 r1 T2 p2 r2 b) : a = b := by
  match a, b, ha, hb with
  | none, none, _, _ => rfl
  | none, some x, ha, hb =>
    have := ha x
    have := hb.1
    omega
  | some x, none, ha, hb =>
    have := hb x
    have := ha.1
    omega
  | some x, some z, ⟨h1, h2⟩, ⟨h3, h4⟩ =>
    rcases Nat.lt_trichotomy x z with q | q | q
    · have := h4 x q
      omega
    · rw [q]
    · have := h2 z q
      omega
/-- by a common turn t = a p1 = b p2 the gap grows by g, from a start of both on -/
theorem gp_turn {B a b : Nat} (w1 : RuleW T1 p1 r1) (w2 : RuleW T2 p2 r2) (hB1 : T1.length - p1 ≤ B) (hB2 : T2.length - p2 ≤ B) (e : a * p1 = b * p2) {x : Nat} (hx : B ≤ x) :
    gp T1 p1 r1 T2 p2 r2 (x + a * p1) = gp T1 p1 r1 T2 p2 r2 x + ((a : Int) * r1 - (b : Int) * r2) := by
  unfold gp
  rw [vl_addk w1.p0 w1.p1 (by omega) a, e, vl_addk w2.p0 w2.p1 (by omega) b]
  omega
theorem gp_turns {B t : Nat} {g : Int} (h : ∀ x, B ≤ x → gp T1 p1 r1 T2 p2 r2 (x + t) = gp T1 p1 r1 T2 p2 r2 x + g) {x : Nat} (hx : B ≤ x) : ∀ k : Nat, gp T1 p1 r1 T2 p2 r2 (x + k * t) = gp T1 p1 r1 T2 p2 r2 x + (k : Int) * g
  | 0 => by simp
  | k + 1 => by
    have ih := gp_turns h hx k
    rw [show x + (k + 1) * t = x + k * t + t by rw [Nat.add_mul, Nat.one_mul, Nat.add_assoc], h _ (by omega), ih, Int.natCast_add, Int.add_mul]
    simp
    omega
theorem split_turn {B t z : Nat} (t0 : 0 < t) (hz : B ≤ z) : ∃ x k, B ≤ x ∧ x < B + t ∧ z = x + k * t := by
  have a := Nat.div_add_mod (z - B) t
  have b := Nat.mod_lt (z - B) t0
  refine ⟨B + (z - B) % t, (z - B) / t, by omega, by omega, ?_⟩
  rw [Nat.mul_comm]
  omega
theorem none_of {B t : Nat} {g : Int} (t0 : 0 < t) (h : ∀ x, B ≤ x → gp T1 p1 r1 T2 p2 r2 (x + t) = gp T1 p1 r1 T2 p2 r2 x + g) (hg : g ≤ 0) (early : ∀ x, x < B + t → gp T1 p1 r1 T2 p2 r2 x ≤ 0) : IsFst T1 p1 r1 T2 p2 r2 none := by
  intro z
  by_cases q : z < B
  · exact early z (by omega)
  · obtain ⟨x, k, h1, h2, rfl⟩ := split_turn t0 (show B ≤ z by omega)
    rw [gp_turns h h1 k]
    have := early x h2
    have : (k : Int) * g ≤ 0 := Int.mul_nonpos_of_nonneg_of_nonpos (by omega) hg
    omega
/-- the least of the first amounts of all rests -/
theorem some_of {B t m : Nat} {g : Int} (t0 : 0 < t) (h : ∀ x, B ≤ x → gp T1 p1 r1 T2 p2 r2 (x + t) = gp T1 p1 r1 T2 p2 r2 x + g) (hg : 0 < g) (early : ∀ x, x < B + t → gp T1 p1 r1 T2 p2 r2 x ≤ 0)
    (hm : ∃ x, B ≤ x ∧ x < B + t ∧ (m : Int) = (x : Int) + (t : Int) * ((-gp T1 p1 r1 T2 p2 r2 x) / g + 1)) (least : ∀ x, B ≤ x → x < B + t → (m : Int) ≤ (x : Int) + (t : Int) * ((-gp T1 p1 r1 T2 p2 r2 x) / g + 1)) : IsFst T1 p1 r1 T2 p2 r2 (some m) := by
  constructor
  · obtain ⟨x, h1, h2, e⟩ := hm
    have ex := early x h2
    have q0 : 0 ≤ (-gp T1 p1 r1 T2 p2 r2 x) / g := Int.ediv_nonneg (by omega) (by omega)
    obtain ⟨k, hk⟩ : ∃ k : Nat, (-gp T1 p1 r1 T2 p2 r2 x) / g = (k : Int) := ⟨_, (Int.toNat_of_nonneg q0).symm⟩
    have e2 : m = x + (k + 1) * t := by
      rw [hk] at e
      have : ((x + (k + 1) * t : Nat) : Int) = (x : Int) + (t : Int) * ((k : Int) + 1) := by
        rw [Int.natCast_add, Int.natCast_mul, Int.mul_comm]
        rfl
      omega
    rw [e2, gp_turns h h1]
    have d1 := Int.mul_ediv_add_emod (-gp T1 p1 r1 T2 p2 r2 x) g
    have d2 := Int.emod_lt_of_pos (-gp T1 p1 r1 T2 p2 r2 x) hg
    rw [hk] at d1
    have e3 : ((k + 1 : Nat) : Int) * g = g * (k : Int) + g := by rw [Int.natCast_add, Int.add_mul, Int.mul_comm]; simp
    omega
  · intro z hz
    by_cases q : z < B
    · exact early z (by omega)
    · obtain ⟨x, k, h1, h2, rfl⟩ := split_turn t0 (show B ≤ z by omega)
      rcases Int.lt_or_le 0 (gp T1 p1 r1 T2 p2 r2 (x + k * t)) with w | w
      · exfalso
        have l := least x h1 h2
        rw [gp_turns h h1 k] at w
        have d1 := Int.mul_ediv_add_emod (-gp T1 p1 r1 T2 p2 r2 x) g
        have d2 := Int.emod_nonneg (-gp T1 p1 r1 T2 p2 r2 x) (show g ≠ 0 by omega)
        have lt : (-gp T1 p1 r1 T2 p2 r2 x) / g < (k : Int) := by
          rcases Int.lt_or_le ((-gp T1 p1 r1 T2 p2 r2 x) / g) (k : Int) with c | c
          · exact c
          · have := Int.mul_le_mul_of_nonneg_left c (show 0 ≤ g by omega)
            rw [Int.mul_comm g (k : Int)] at this
            omega
        have le := Int.mul_le_mul_of_nonneg_left (show (-gp T1 p1 r1 T2 p2 r2 x) / g + 1 ≤ (k : Int) by omega) (show 0 ≤ (t : Int) by omega)
        have c1 : ((k * t : Nat) : Int) = (t : Int) * (k : Int) := by rw [Int.natCast_mul, Int.mul_comm]
        omega
      · exact w
end
end Sm

set_option maxHeartbeats 4000000
namespace Sm
/-! just one shortest tuple has given values -/
structure Short (T : List Int) (p : Nat) (r : Int) : Prop where
  ok : RuleOk T p r
  turn : ∀ s c, 0 < s → s < p → s ∣ p → ¬ Rep T p r s c
  start : p = T.length ∨ vl T p r (T.length - 1) ≠ T.getD (T.length - p - 1) 0 + r
theorem vl_ge_turn {T : List Int} {p : Nat} {r : Int} (o : RuleOk T p r) {x : Nat} (h : T.length - p ≤ x) (k : Nat) : vl T p r (x + k * p) = vl T p r x + (k : Int) * r := vl_addk o.p0 o.p1 h k
/-- what holds far off holds from the start of the turns on -/
theorem rep_down {T : List Int} {p s A : Nat} {r c : Int} (o : RuleOk T p r) (h : ∀ x, A ≤ x → vl T p r (x + s) = vl T p r x + c) {x : Nat} (hx : T.length - p ≤ x) : vl T p r (x + s) = vl T p r x + c := by
  have p0 := o.p0
  have e1 := vl_ge_turn o (x := x) hx A
  have e2 := vl_ge_turn o (x := x + s) (by omega) A
  have far : A ≤ x + A * p := by
    have : A * 1 ≤ A * p := Nat.mul_le_mul_left A p0
    omega
  have e3 := h _ far
  rw [show x + A * p + s = x + s + A * p by omega] at e3
  omega
/-- two turns have a turn as long as their greatest common divisor -/
theorem gcd_turn {f : Nat → Int} {A : Nat} : ∀ (n p q : Nat), p + q ≤ n → 0 < p → 0 < q → (∃ r, ∀ x, A ≤ x → f (x + p) = f x + r) → (∃ t, ∀ x, A ≤ x → f (x + q) = f x + t) → ∃ c, ∀ x, A ≤ x → f (x + Nat.gcd p q) = f x + c
  | 0, p, q, h, p0, q0, _, _ => by omega
  | n + 1, p, q, h, p0, q0, ⟨r, hr⟩, ⟨t, ht⟩ => by
    rcases Nat.lt_trichotomy p q with l | l | l
    · have g : Nat.gcd p (q - p) = Nat.gcd p q := Nat.gcd_sub_self_right (Nat.le_of_lt l)
      rw [← g]
      refine gcd_turn n p (q - p) (by omega) p0 (by omega) ⟨r, hr⟩ ⟨t - r, fun x hx => ?_⟩
      have e1 := ht x hx
      have e2 := hr (x + (q - p)) (by omega)
      rw [show x + (q - p) + p = x + q by omega] at e2
      omega
    · subst l
      rw [Nat.gcd_self]
      exact ⟨r, hr⟩
    · have g : Nat.gcd (p - q) q = Nat.gcd p q := Nat.gcd_sub_self_left (Nat.le_of_lt l)
      rw [← g]
      refine gcd_turn n (p - q) q (by omega) (by omega) q0 ⟨r - t, fun x hx => ?_⟩ ⟨t, ht⟩
      have e1 := hr x hx
      have e2 := ht (x + (p - q)) (by omega)
      rw [show x + (p - q) + q = x + p by omega] at e2
      omega
theorem short_le {T1 T2 : List Int} {p1 p2 : Nat} {r1 r2 : Int} (s1 : Short T1 p1 r1) (o2 : RuleOk T2 p2 r2) (h : ∀ x, vl T1 p1 r1 x = vl T2 p2 r2 x) : Nat.gcd p1 p2 = p1 := by
  have o1 := s1.ok
  obtain ⟨c, hc⟩ := gcd_turn (f := vl T1 p1 r1) (A := max (T1.length - p1) (T2.length - p2)) _ p1 p2 (Nat.le_refl _) o1.p0 o2.p0 ⟨r1, fun x hx => vl_add o1.p0 o1.p1 (by omega)⟩ ⟨r2, fun x hx => by rw [h, h]; exact vl_add o2.p0 o2.p1 (by omega)⟩
  have g0 : 0 < Nat.gcd p1 p2 := Nat.gcd_pos_of_pos_left _ o1.p0
  have gl : Nat.gcd p1 p2 ≤ p1 := Nat.le_of_dvd o1.p0 (Nat.gcd_dvd_left ..)
  by_cases q : Nat.gcd p1 p2 = p1
  · exact q
  · exact absurd (fun i h1 h2 => by rw [← vl_lt (p := p1) (r := r1) h2]; exact rep_down o1 hc h1) (s1.turn _ c g0 (by omega) (Nat.gcd_dvd_left ..))
theorem short_start {T1 T2 : List Int} {p : Nat} {r : Int} (s1 : Short T1 p r) (s2 : Short T2 p r) (h : ∀ x, vl T1 p r x = vl T2 p r x) : T2.length ≤ T1.length := by
  have o1 := s1.ok
  have o2 := s2.ok
  have p0 := o1.p0
  have l1 := o1.p1
  have l2 := o2.p1
  rcases Nat.lt_or_ge T1.length T2.length with q | q
  · exfalso
    rcases s2.start with e | e
    · omega
    · apply e
      have := vl_add (T := T1) (p := p) (r := r) p0 l1 (x := T2.length - p - 1) (by omega)
      rw [show T2.length - p - 1 + p = T2.length - 1 by omega, h, h, vl_lt (T := T2) (x := T2.length - p - 1) (by omega)] at this
      exact this
  · exact q
/-- just one shortest tuple has given values -/
theorem short_one {T1 T2 : List Int} {p1 p2 : Nat} {r1 r2 : Int} (s1 : Short T1 p1 r1) (s2 : Short T2 p2 r2) (h : ∀ x, vl T1 p1 r1 x = vl T2 p2 r2 x) : T1 = T2 ∧ p1 = p2 ∧ r1 = r2 := by
  have a := short_le s1 s2.ok h
  have b := short_le s2 s1.ok fun x => (h x).symm
  rw [Nat.gcd_comm] at b
  obtain rfl : p1 = p2 := a.symm.trans b
  have o1 := s1.ok
  have o2 := s2.ok
  have e1 := vl_add o1.p0 o1.p1 (r := r1) (x := max (T1.length - p1) (T2.length - p1)) (by omega)
  have e2 := vl_add o2.p0 o2.p1 (r := r2) (x := max (T1.length - p1) (T2.length - p1)) (by omega)
  rw [h, h] at e1
  obtain rfl : r1 = r2 := by omega
  have l : T1.length = T2.length := Nat.le_antisymm (short_start s2 s1 fun x => (h x).symm) (short_start s1 s2 h)
  refine ⟨List.ext_getElem l fun i h1 h2 => ?_, rfl, rfl⟩
  have e := h i
  rw [vl_lt h1, vl_lt h2, List.getD_eq_getElem?_getD, List.getD_eq_getElem?_getD, List.getElem?_eq_getElem h1, List.getElem?_eq_getElem h2] at e
  exact e
theorem rep_slope {T : List Int} {p s : Nat} {r c : Int} (o : RuleOk T p r) (sd : s ∣ p) (h : Rep T p r s c) : r * (s : Int) = c * (p : Int) := by
  obtain ⟨k, rfl⟩ := sd
  have all := rep_all o h
  have up : ∀ n : Nat, vl T (s * k) r (T.length - s * k + n * s) = vl T (s * k) r (T.length - s * k) + (n : Int) * c := by
    intro n
    induction n with
    | zero => simp
    | succ n ih =>
      rw [show T.length - s * k + (n + 1) * s = T.length - s * k + n * s + s by rw [Nat.add_mul]; omega, all _ (by omega), ih, Int.natCast_add, Int.add_mul]
      simp
      omega
  have e1 := up k
  have e2 := vl_add o.p0 o.p1 (r := r) (x := T.length - s * k) (Nat.le_refl _)
  rw [Nat.mul_comm k s, e2] at e1
  have e3 : r = (k : Int) * c := by omega
  rw [e3, Int.natCast_mul, Int.mul_comm (k : Int) c, Int.mul_assoc, Int.mul_comm (k : Int)]
theorem rep_quot {T : List Int} {p s : Nat} {r c : Int} (o : RuleOk T p r) (sd : s ∣ p) (h : Rep T p r s c) : r * (s : Int) / (p : Int) = c ∧ r * (s : Int) % (p : Int) = 0 := by
  have p0 := o.p0
  rw [rep_slope o sd h]
  exact ⟨Int.mul_ediv_cancel _ (by omega), Int.mul_emod_left _ _⟩
theorem cut_short {T : List Int} {p a s : Nat} {r c : Int} (o : RuleOk T p r) (hs : 0 < s) (sd : s ∣ p) (ha : a ≤ T.length - p) (c0 : 0 ≤ c) (h : ∀ y, a ≤ y → vl T p r (y + s) = vl T p r y + c)
    (hm : ∀ s' c', 0 < s' → s' < s → s' ∣ p → ¬ Rep T p r s' c') (st : a = 0 ∨ vl T p r (a - 1 + s) ≠ T.getD (a - 1) 0 + c) : Short (T.take (a + s)) s c := by
  have p1 := o.p1
  have sp : s ≤ p := Nat.le_of_dvd o.p0 sd
  have ok := cut_ok o hs (by omega) c0 h
  have eq := cut_vl (T := T) (p := p) (r := r) hs (show a + s ≤ T.length by omega) h
  have len : (T.take (a + s)).length = a + s := by rw [List.length_take]; omega
  refine ⟨ok, fun s' c' h1 h2 h3 rep => hm s' c' h1 h2 (Nat.dvd_trans h3 sd) fun i g1 g2 => ?_, ?_⟩
  · have all := rep_all ok rep i (by rw [len]; omega)
    rw [eq, eq, vl_lt (T := T) g2] at all
    exact all
  · by_cases z : a = 0
    · left
      rw [len, z, Nat.zero_add]
    · right
      rw [len, eq, show a + s - 1 = a - 1 + s by omega, show a + s - s - 1 = a - 1 by omega, getD_take (by omega)]
      rcases st with q | q
      · exact absurd q z
      · exact q
theorem dvd_of {p i : Nat} (h : (p : Int).fmod (1 + (i : Int)) = 0) : 1 + i ∣ p := by
  rw [Int.fmod_eq_emod_of_nonneg _ (by omega)] at h
  exact Int.natCast_dvd_natCast.mp (Int.dvd_of_emod_eq_zero (b := (p : Int)) (a := ((1 + i : Nat) : Int)) h)
theorem of_dvd {p i : Nat} (h : 1 + i ∣ p) : (p : Int).fmod (1 + (i : Int)) = 0 := by
  rw [Int.fmod_eq_emod_of_nonneg _ (by omega)]
  exact Int.emod_eq_zero_of_dvd (a := ((1 + i : Nat) : Int)) (Int.natCast_dvd_natCast.mpr h)
end Sm

set_option maxHeartbeats 4000000
namespace Sm
/-! a list that comes back when it is turned; the steps of the last period -/
def Rot (I : List Int) (s : Nat) : Prop := I = I.drop s ++ I.take s
structure Cyc (I : List Int) (s : Nat) : Prop where
  s0 : 0 < s
  s1 : s ≤ I.length
  dv : s ∣ I.length
  rot : s < I.length → Rot I s
  least : ∀ t, 0 < t → t < s → t ∣ I.length → ¬ Rot I t
def stepsOf (T : List Int) (p : Nat) (r : Int) : List Int := (List.range p).map fun i => vl T p r (T.length - p + i + 1) - vl T p r (T.length - p + i)
theorem stepsOf_len (T : List Int) (p : Nat) (r : Int) : (stepsOf T p r).length = p := by
  unfold stepsOf
  rw [List.length_map, List.length_range]
theorem stepsOf_get {T : List Int} {p : Nat} {r : Int} {i : Nat} (h : i < p) : (stepsOf T p r)[i]? = some (vl T p r (T.length - p + i + 1) - vl T p r (T.length - p + i)) := by
  unfold stepsOf
  rw [List.getElem?_map, List.getElem?_range h]
  rfl
theorem rot_get {I : List Int} {s i : Nat} (h : Rot I s) (hs : s ≤ I.length) (hi : i < I.length) : I[i]? = if i + s < I.length then I[i + s]? else I[i + s - I.length]? := by
  have e : I[i]? = (I.drop s ++ I.take s)[i]? := congrArg (fun l => l[i]?) h
  rw [e, List.getElem?_append, List.length_drop]
  by_cases q : i < I.length - s
  · rw [if_pos q, if_pos (by omega), List.getElem?_drop, Nat.add_comm]
  · rw [if_neg q, if_neg (by omega), List.getElem?_take_of_lt (by omega), show i - (I.length - s) = i + s - I.length by omega]
theorem of_rot {I : List Int} {s : Nat} (hs : s ≤ I.length) (h : ∀ i, i < I.length → I[i]? = if i + s < I.length then I[i + s]? else I[i + s - I.length]?) : Rot I s := by
  refine List.ext_getElem? fun i => ?_
  by_cases hi : i < I.length
  · rw [h i hi, List.getElem?_append, List.length_drop]
    by_cases q : i < I.length - s
    · rw [if_pos q, if_pos (by omega), List.getElem?_drop, Nat.add_comm]
    · rw [if_neg q, if_neg (by omega), List.getElem?_take_of_lt (by omega), show i - (I.length - s) = i + s - I.length by omega]
  · rw [List.getElem?_eq_none (by omega), List.getElem?_eq_none (by rw [List.length_append, List.length_drop, List.length_take]; omega)]
theorem rot_rep {T : List Int} {p s : Nat} {r : Int} (o : RuleW T p r) (sp : s < p) (h : Rot (stepsOf T p r) s) : Rep T p r s (vl T p r (T.length - p + s) - vl T p r (T.length - p)) := by
  have p0 := o.p0
  have p1 := o.p1
  have ln := stepsOf_len T p r
  have d : ∀ j, j < p → vl T p r (T.length - p + (j + s) + 1) - vl T p r (T.length - p + (j + s)) = vl T p r (T.length - p + j + 1) - vl T p r (T.length - p + j) := by
    intro j hj
    have e := rot_get h (by omega) (i := j) (by omega)
    rw [ln, stepsOf_get hj] at e
    by_cases q : j + s < p
    · rw [if_pos q, stepsOf_get q] at e
      exact (Option.some.inj e).symm
    · rw [if_neg q, stepsOf_get (by omega)] at e
      have e := Option.some.inj e
      have e1 := vl_add p0 p1 (r := r) (x := T.length - p + (j + s - p) + 1) (by omega)
      have e2 := vl_add p0 p1 (r := r) (x := T.length - p + (j + s - p)) (by omega)
      rw [show T.length - p + (j + s - p) + 1 + p = T.length - p + (j + s) + 1 by omega] at e1
      rw [show T.length - p + (j + s - p) + p = T.length - p + (j + s) by omega] at e2
      omega
  have all : ∀ j, j ≤ p → vl T p r (T.length - p + j + s) = vl T p r (T.length - p + j) + (vl T p r (T.length - p + s) - vl T p r (T.length - p)) := by
    intro j
    induction j with
    | zero => intro _; simp; omega
    | succ j ih =>
      intro hj
      have a := ih (by omega)
      have b := d j (by omega)
      rw [show T.length - p + (j + s) + 1 = T.length - p + (j + 1) + s by omega, show T.length - p + (j + s) = T.length - p + j + s by omega] at b
      rw [show T.length - p + (j + 1) = T.length - p + j + 1 by omega] at b ⊢
      omega
  intro i h1 h2
  have := all (i - (T.length - p)) (by omega)
  rw [show T.length - p + (i - (T.length - p)) = i by omega] at this
  rw [this, vl_lt h2]
theorem rep_rot {T : List Int} {p s : Nat} {r c : Int} (o : RuleW T p r) (sp : s ≤ p) (h : Rep T p r s c) : Rot (stepsOf T p r) s := by
  have p0 := o.p0
  have p1 := o.p1
  have ln := stepsOf_len T p r
  have all := rep_allW o h
  refine of_rot (by omega) fun i hi => ?_
  rw [ln] at hi ⊢
  rw [stepsOf_get hi]
  have a := all (T.length - p + i) (by omega)
  have b := all (T.length - p + i + 1) (by omega)
  by_cases q : i + s < p
  · rw [if_pos q, stepsOf_get q]
    rw [show T.length - p + i + s = T.length - p + (i + s) by omega] at a
    rw [show T.length - p + i + 1 + s = T.length - p + (i + s) + 1 by omega] at b
    congr 1
    omega
  · rw [if_neg q, stepsOf_get (by omega)]
    have e1 := vl_add p0 p1 (r := r) (x := T.length - p + (i + s - p) + 1) (by omega)
    have e2 := vl_add p0 p1 (r := r) (x := T.length - p + (i + s - p)) (by omega)
    rw [show T.length - p + (i + s - p) + 1 + p = T.length - p + i + 1 + s by omega] at e1
    rw [show T.length - p + (i + s - p) + p = T.length - p + i + s by omega] at e2
    congr 1
    omega
/-- the least turn of the steps is the rule's least turn -/
theorem cyc_rule {T : List Int} {p s : Nat} {r : Int} (o : RuleOk T p r) (h : Cyc (stepsOf T p r) s) : 0 < s ∧ s ≤ p ∧ s ∣ p ∧ Rep T p r s (r * (s : Int) / (p : Int)) ∧ ∀ s' c', 0 < s' → s' < s → s' ∣ p → ¬ Rep T p r s' c' := by
  obtain ⟨s0, s1, dv, rot, least⟩ := h
  rw [stepsOf_len] at s1 dv rot least
  have p0 := o.p0
  refine ⟨s0, s1, dv, ?_, fun s' c' h1 h2 h3 rep => least s' h1 h2 h3 (rep_rot o.w (by omega) rep)⟩
  by_cases q : s < p
  · have rep := rot_rep o.w q (rot q)
    rw [(rep_quot o dv rep).1]
    exact rep
  · obtain rfl : s = p := by omega
    rw [Int.mul_ediv_cancel _ (by omega)]
    exact rep_self o
/-! values told by a function, as a rule -/
theorem tab_getD {f : Nat → Int} {n i : Nat} (h : i < n) : ((List.range n).map f).getD i 0 = f i := by
  rw [List.getD_eq_getElem?_getD, List.getElem?_map, List.getElem?_range h]
  rfl
theorem tab_len {f : Nat → Int} {n : Nat} : ((List.range n).map f).length = n := by rw [List.length_map, List.length_range]
theorem tab_vl {f : Nat → Int} {B t : Nat} {R : Int} (t0 : 0 < t) (h : ∀ x, B ≤ x → f (x + t) = f x + R) : ∀ x, vl ((List.range (B + t)).map f) t R x = f x := by
  intro x
  induction x using Nat.strongRecOn with
  | _ x ih =>
    by_cases q : x < B + t
    · rw [vl_lt (by rw [tab_len]; exact q), tab_getD q]
    · rw [vl_step t0 (by rw [tab_len]; omega) (by rw [tab_len]; omega), ih (x - t) (by omega)]
      have := h (x - t) (by omega)
      rw [show x - t + t = x by omega] at this
      omega
theorem tab_ok {f : Nat → Int} {B t : Nat} {R : Int} (t0 : 0 < t) (R0 : 0 ≤ R) (h : ∀ x, B ≤ x → f (x + t) = f x + R) (f0 : ∀ x, 0 ≤ f x) (up : ∀ x, f x ≤ f (x + 1)) : RuleOk ((List.range (B + t)).map f) t R := by
  refine ⟨t0, by rw [tab_len]; omega, R0, fun i hi => ?_, fun i hi => ?_, ?_⟩
  · rw [tab_len] at hi
    rw [tab_getD hi]
    exact f0 i
  · rw [tab_len] at hi
    rw [tab_getD hi, tab_getD (by omega)]
    exact up i
  · rw [tab_len, tab_getD (by omega), tab_getD (by omega), show B + t - t = B by omega]
    have a := h B (Nat.le_refl _)
    have b := up (B + t - 1)
    rw [show B + t - 1 + 1 = B + t by omega] at b
    omega
end Sm

set_option maxHeartbeats 4000000
namespace Sm
/-! the arithmetic -/
theorem lt_of_dm {d a b : Int} (hd : 0 < d) (h : d * a < d * b + d) : a ≤ b := by
  have h2 : d * a < d * (b + 1) := by rw [Int.mul_add, Int.mul_one]; exact h
  have := Int.lt_of_mul_lt_mul_left h2 (Int.le_of_lt hd)
  omega
theorem div_lo {a d : Int} (hd : 0 < d) : d * (a / d) ≤ a := by
  have := Int.mul_ediv_add_emod a d
  have := Int.emod_nonneg a (show d ≠ 0 by omega)
  omega
theorem div_hi {a d : Int} (hd : 0 < d) : a < d * (a / d) + d := by
  have := Int.mul_ediv_add_emod a d
  have := Int.emod_lt_of_pos a hd
  omega
theorem div_uniq {a d q : Int} (hd : 0 < d) (h1 : d * q ≤ a) (h2 : a < d * q + d) : a / d = q := by
  have l := div_lo (a := a) hd
  have u := div_hi (a := a) hd
  have x : a / d ≤ q := lt_of_dm hd (by omega)
  have y : q ≤ a / d := lt_of_dm hd (by omega)
  omega
/-- what is given, rounded by the mode m (0 down, 1 up, 2 near), for e = num * x -/
def Gm (m : Nat) (e d : Int) : Int := if m = 0 then e / d else if m = 1 then (e + d - 1) / d else (2 * e + d) / (2 * d)
theorem g_lo {d e : Int} : Gm 0 e d = e / d := rfl
theorem g_up {d e : Int} : Gm 1 e d = (e + d - 1) / d := rfl
theorem g_ne {d e : Int} : Gm 2 e d = (2 * e + d) / (2 * d) := rfl
theorem G0 {d e : Int} (hd : 0 < d) : d * Gm 0 e d ≤ e ∧ e < d * Gm 0 e d + d := ⟨div_lo hd, div_hi hd⟩
theorem G1 {d e : Int} (hd : 0 < d) : e ≤ d * Gm 1 e d ∧ d * Gm 1 e d < e + d := by
  have a := div_lo (a := e + d - 1) hd
  have b := div_hi (a := e + d - 1) hd
  rw [g_up]
  omega
theorem G2 {d e : Int} (hd : 0 < d) : 2 * (d * Gm 2 e d) ≤ 2 * e + d ∧ 2 * e + d < 2 * (d * Gm 2 e d) + 2 * d := by
  have a := div_lo (a := 2 * e + d) (d := 2 * d) (by omega)
  have b := div_hi (a := 2 * e + d) (d := 2 * d) (by omega)
  rw [g_ne]
  rw [Int.mul_assoc] at a b
  omega
theorem G0u {d e q : Int} (hd : 0 < d) (h1 : d * q ≤ e) (h2 : e < d * q + d) : Gm 0 e d = q := div_uniq hd h1 h2
theorem G1u {d e q : Int} (hd : 0 < d) (h1 : e ≤ d * q) (h2 : d * q < e + d) : Gm 1 e d = q := by
  rw [g_up]; exact div_uniq hd (by omega) (by omega)
theorem G2u {d e q : Int} (hd : 0 < d) (h1 : 2 * (d * q) ≤ 2 * e + d) (h2 : 2 * e + d < 2 * (d * q) + 2 * d) : Gm 2 e d = q := by
  rw [g_ne]; exact div_uniq (by omega) (by rw [Int.mul_assoc]; omega) (by rw [Int.mul_assoc]; omega)
/-- a turn more -/
theorem G_turn {m : Nat} {d e k : Int} (hm : m ≤ 2) (hd : 0 < d) : Gm m (e + d * k) d = Gm m e d + k := by
  have z : d * (Gm m e d + k) = d * Gm m e d + d * k := Int.mul_add _ _ _
  obtain rfl | rfl | rfl : m = 0 ∨ m = 1 ∨ m = 2 := by omega
  · have := G0 (e := e) hd
    exact G0u hd (by omega) (by omega)
  · have := G1 (e := e) hd
    exact G1u hd (by omega) (by omega)
  · have := G2 (e := e) hd
    exact G2u hd (by omega) (by omega)
/-- the law's own way -/
def LG (m : Nat) (e d : Int) : Int := if m = 0 then e / d else if m = 1 then e / d + (if 0 < e % d then 1 else 0) else e / d + (if d ≤ 2 * (e % d) then 1 else 0)
theorem LG_eq {m : Nat} {d e : Int} (hm : m ≤ 2) (hd : 0 < d) : Gm m e d = LG m e d := by
  have h := Int.mul_ediv_add_emod e d
  have h0 := Int.emod_nonneg e (show d ≠ 0 by omega)
  have h1 := Int.emod_lt_of_pos e hd
  obtain rfl | rfl | rfl : m = 0 ∨ m = 1 ∨ m = 2 := by omega
  · rfl
  · show _ = e / d + (if 0 < e % d then 1 else 0)
    have z : d * (e / d + 1) = d * (e / d) + d := by rw [Int.mul_add, Int.mul_one]
    split
    · exact G1u hd (by omega) (by omega)
    · rw [Int.add_zero]; exact G1u hd (by omega) (by omega)
  · show _ = e / d + (if d ≤ 2 * (e % d) then 1 else 0)
    have z : d * (e / d + 1) = d * (e / d) + d := by rw [Int.mul_add, Int.mul_one]
    split
    · exact G2u hd (by omega) (by omega)
    · rw [Int.add_zero]; exact G2u hd (by omega) (by omega)
theorem G_order {d e : Int} (hd : 0 < d) : d * Gm 0 e d ≤ e ∧ e ≤ d * Gm 1 e d ∧ Gm 0 e d ≤ Gm 2 e d ∧ Gm 2 e d ≤ Gm 1 e d ∧ Gm 1 e d - Gm 0 e d ≤ 1 ∧ 2 * (d * Gm 2 e d - e) ≤ d ∧ -d ≤ 2 * (d * Gm 2 e d - e) := by
  have a := G0 (e := e) hd
  have b := G1 (e := e) hd
  have c := G2 (e := e) hd
  have z : d * (Gm 0 e d + 1) = d * Gm 0 e d + d := by rw [Int.mul_add, Int.mul_one]
  refine ⟨a.1, b.1, lt_of_dm hd (by omega), lt_of_dm hd (by omega), ?_, by omega, by omega⟩
  have : Gm 1 e d ≤ Gm 0 e d + 1 := lt_of_dm hd (by omega)
  omega
theorem G_both {m : Nat} {d e f : Int} (hm : m ≤ 2) (hd : 0 < d) : (m = 0 → Gm m e d + Gm m f d ≤ Gm m (e + f) d) ∧ (m = 1 → Gm m (e + f) d ≤ Gm m e d + Gm m f d) ∧
    Gm m (e + f) d - (Gm m e d + Gm m f d) ≤ 1 ∧ -1 ≤ Gm m (e + f) d - (Gm m e d + Gm m f d) := by
  have z : d * (Gm m e d + Gm m f d) = d * Gm m e d + d * Gm m f d := Int.mul_add _ _ _
  have z1 : d * (Gm m e d + Gm m f d + 1) = d * Gm m e d + d * Gm m f d + d := by rw [Int.mul_add, Int.mul_one, z]
  have z2 : d * (Gm m (e + f) d + 1) = d * Gm m (e + f) d + d := by rw [Int.mul_add, Int.mul_one]
  obtain rfl | rfl | rfl : m = 0 ∨ m = 1 ∨ m = 2 := by omega
  · have a := G0 (e := e) hd
    have b := G0 (e := f) hd
    have c := G0 (e := e + f) hd
    have h1 : Gm 0 e d + Gm 0 f d ≤ Gm 0 (e + f) d := lt_of_dm hd (by omega)
    have h2 : Gm 0 (e + f) d ≤ Gm 0 e d + Gm 0 f d + 1 := lt_of_dm hd (by omega)
    refine ⟨fun _ => h1, fun q => by omega, by omega, by omega⟩
  · have a := G1 (e := e) hd
    have b := G1 (e := f) hd
    have c := G1 (e := e + f) hd
    have h1 : Gm 1 (e + f) d ≤ Gm 1 e d + Gm 1 f d := lt_of_dm hd (by omega)
    have h2 : Gm 1 e d + Gm 1 f d ≤ Gm 1 (e + f) d + 1 := lt_of_dm hd (by omega)
    refine ⟨fun q => by omega, fun _ => h1, by omega, by omega⟩
  · have a := G2 (e := e) hd
    have b := G2 (e := f) hd
    have c := G2 (e := e + f) hd
    have h1 : Gm 2 (e + f) d ≤ Gm 2 e d + Gm 2 f d + 1 := lt_of_dm hd (by omega)
    have h2 : Gm 2 e d + Gm 2 f d ≤ Gm 2 (e + f) d + 1 := lt_of_dm hd (by omega)
    refine ⟨fun q => by omega, fun q => by omega, by omega, by omega⟩
/-- the least common multiple, by steps -/
theorem mult_end {a b k : Int} (hb : 0 < b) (h : ∀ j : Int, 0 < j → j < k → ¬ (j * a) % b = 0) (h0 : 0 < k) : k ≤ b := by
  rcases Int.lt_or_le b k with q | q
  · exact absurd (Int.mul_emod_right b a) (h b hb q)
  · exact q
end Sm

set_option maxHeartbeats 4000000
namespace Sm
/-! ### the most that one use gives -/
def lim (u : Option Int) (x : Int) : Int := match u with | none => x | some v => if v < x then v else x
def lastT (s : Int) (u : Option Int) (x : Int) : Int := lim u x / s * s
def Fv (m : Nat) (num den least s : Int) (u : Option Int) (x : Int) : Int := if least ≤ lastT s u x then Gm m (num * lastT s u x) den else 0
structure Dk (m : Nat) (num den least step : Int) (u : Option Int) : Prop where
  hm : m ≤ 2
  n0 : 0 ≤ num
  n1 : num ≤ 30
  d0 : 1 ≤ den
  d1 : den ≤ 30
  l0 : 1 ≤ least
  l1 : least ≤ 30
  s0 : 1 ≤ step
  s1 : step ≤ 30
  u0 : ∀ v, u = some v → least ≤ v
  u1 : ∀ v, u = some v → v ≤ 1000
def Tk (least s : Int) (u : Option Int) (x : Int) : Prop := least ≤ x ∧ x % s = 0 ∧ ∀ v, u = some v → x ≤ v
theorem lim_le {u : Option Int} {x : Int} : lim u x ≤ x := by
  unfold lim
  split
  · omega
  · split <;> omega
theorem lim_up {u : Option Int} {x : Int} : lim u x ≤ lim u (x + 1) := by
  unfold lim
  split
  · omega
  · split <;> split <;> omega
theorem lim_in {u : Option Int} {x : Int} (h : ∀ v, u = some v → x ≤ v) : lim u x = x := by
  unfold lim
  split
  · rfl
  · have := h _ rfl
    rw [if_neg (by omega)]
theorem lim_pos {m : Nat} {num den least s x : Int} {u : Option Int} (o : Dk m num den least s u) (h : 0 ≤ x) : 0 ≤ lim u x := by
  have l0 := o.l0
  unfold lim
  split
  · exact h
  · have := o.u0 _ rfl
    split <;> omega
theorem mul_div_self {x s : Int} (h : x % s = 0) : x / s * s = x := Int.ediv_mul_cancel (Int.dvd_of_emod_eq_zero h)
theorem last_le {s x : Int} {u : Option Int} (s0 : 1 ≤ s) : lastT s u x ≤ lim u x := by
  unfold lastT
  have := div_lo (a := lim u x) (d := s) (by omega)
  rw [Int.mul_comm] at this
  exact this
theorem last_up {s x : Int} {u : Option Int} (s0 : 1 ≤ s) : lastT s u x ≤ lastT s u (x + 1) := by
  unfold lastT
  exact Int.mul_le_mul_of_nonneg_right (Int.ediv_le_ediv (by omega) lim_up) (by omega)
theorem last_mod {s x : Int} {u : Option Int} : lastT s u x % s = 0 := by
  unfold lastT
  exact Int.mul_emod_left _ _
theorem last_tk {least s x : Int} {u : Option Int} (h : Tk least s u x) : lastT s u x = x := by
  unfold lastT
  rw [lim_in h.2.2, mul_div_self h.2.1]
theorem G_mono {m : Nat} {d e f : Int} (hd : 0 < d) (h : e ≤ f) : Gm m e d ≤ Gm m f d := by
  unfold Gm
  split
  · exact Int.ediv_le_ediv hd h
  · split
    · exact Int.ediv_le_ediv hd (by omega)
    · exact Int.ediv_le_ediv (by omega) (by omega)
theorem G_nn {m : Nat} {d e : Int} (hd : 0 < d) (h : 0 ≤ e) : 0 ≤ Gm m e d := by
  unfold Gm
  split
  · exact Int.ediv_nonneg h (by omega)
  · split
    · exact Int.ediv_nonneg (by omega) (by omega)
    · exact Int.ediv_nonneg (by omega) (by omega)
theorem G_le {m : Nat} {d e : Int} (hd : 1 ≤ d) (h : 0 ≤ e) : Gm m e d ≤ e + 1 := by
  unfold Gm
  split
  · have := Int.ediv_le_self d h
    omega
  · split
    · have hh := div_lo (a := e + d - 1) (d := d) (by omega)
      refine lt_of_dm (d := d) (by omega) ?_
      have : d * (e + 1) = d * e + d := by rw [Int.mul_add, Int.mul_one]
      have : 1 * e ≤ d * e := Int.mul_le_mul_of_nonneg_right hd h
      omega
    · have hh := div_lo (a := 2 * e + d) (d := 2 * d) (by omega)
      refine lt_of_dm (d := 2 * d) (by omega) ?_
      have : 2 * d * (e + 1) = 2 * (d * e) + 2 * d := by rw [Int.mul_add, Int.mul_one, Int.mul_assoc]
      have : 1 * e ≤ d * e := Int.mul_le_mul_of_nonneg_right hd h
      omega
section
variable {m : Nat} {num den least s : Int} {u : Option Int}
theorem Fv_tk {x : Int} (h : Tk least s u x) : Fv m num den least s u x = Gm m (num * x) den := by
  unfold Fv
  rw [last_tk h, if_pos h.1]
theorem Fv_not (o : Dk m num den least s u) {x : Int} (h : ¬ Tk least s u x) : Fv m num den least s u x = Fv m num den least s u (x - 1) := by
  have s0 := o.s0
  by_cases c : ∃ v, u = some v ∧ v < x
  · obtain ⟨v, rfl, hv⟩ := c
    have e1 : lim (some v) x = v := by show (if v < x then v else x) = v; rw [if_pos hv]
    have e2 : lim (some v) (x - 1) = v := by
      show (if v < x - 1 then v else x - 1) = v
      split <;> omega
    unfold Fv lastT
    rw [e1, e2]
  · have c1 : ∀ v, u = some v → x ≤ v := fun v hv => by
      rcases Int.lt_or_le v x with q | q
      · exact absurd ⟨v, hv, q⟩ c
      · exact q
    have e1 := lim_in c1
    have e2 : lim u (x - 1) = x - 1 := lim_in fun v hv => by have := c1 v hv; omega
    by_cases q : x % s = 0
    · have lx : ¬ least ≤ x := fun l => h ⟨l, q, c1⟩
      have a : lastT s u x ≤ x := by have := last_le (u := u) (x := x) s0; omega
      have b : lastT s u (x - 1) ≤ x - 1 := by have := last_le (u := u) (x := x - 1) s0; omega
      unfold Fv
      rw [if_neg (by omega), if_neg (by omega)]
    · have e : x / s = (x - 1) / s := by
        have d1 := Int.mul_ediv_add_emod x s
        have d2 := Int.emod_nonneg x (show s ≠ 0 by omega)
        have d3 := Int.emod_lt_of_pos x (show 0 < s by omega)
        exact (div_uniq (by omega) (by omega) (by omega)).symm
      unfold Fv lastT
      rw [e1, e2, e]
theorem Fv_nn (o : Dk m num den least s u) (x : Int) : 0 ≤ Fv m num den least s u x := by
  have l0 := o.l0
  unfold Fv
  split
  · exact G_nn (by have := o.d0; omega) (Int.mul_nonneg o.n0 (by omega))
  · omega
theorem Fv_up (o : Dk m num den least s u) (x : Int) : Fv m num den least s u x ≤ Fv m num den least s u (x + 1) := by
  have a := last_up (u := u) (x := x) o.s0
  by_cases c : least ≤ lastT s u x
  · unfold Fv
    rw [if_pos c, if_pos (by omega)]
    exact G_mono (by have := o.d0; omega) (Int.mul_le_mul_of_nonneg_left a o.n0)
  · have := Fv_nn o (x + 1)
    unfold Fv at this ⊢
    rw [if_neg c]
    exact this
theorem Fv_le (o : Dk m num den least s u) {x : Int} (h : 0 ≤ x) : Fv m num den least s u x ≤ 30 * x + 1 := by
  have l0 := o.l0
  have a := last_le (u := u) (x := x) o.s0
  have b := lim_le (u := u) (x := x)
  have n0 := o.n0
  unfold Fv
  split
  · have c : num * lastT s u x ≤ 30 * x := Int.mul_le_mul o.n1 (by omega) (by omega) (by decide)
    have := G_le (m := m) o.d0 (Int.mul_nonneg n0 (show 0 ≤ lastT s u x by omega))
    omega
  · omega
def fst (least s : Int) : Int := (least + s - 1) / s * s
theorem fst_ge (l0 : 1 ≤ least) (s0 : 1 ≤ s) : least ≤ fst least s := by
  have := div_hi (a := least + s - 1) (d := s) (by omega)
  unfold fst
  rw [Int.mul_comm] at this
  omega
theorem fst_le (l0 : 1 ≤ least) (s0 : 1 ≤ s) : fst least s ≤ least + s - 1 := by
  have := div_lo (a := least + s - 1) (d := s) (by omega)
  unfold fst
  rw [Int.mul_comm] at this
  omega
theorem Fv_turn (o : Dk m num den least s none) {x t : Int} (hx : fst least s ≤ x) (t0 : 0 ≤ t) (d1 : s ∣ t) (d2 : den ∣ t) : Fv m num den least s none (x + t) = Fv m num den least s none x + num * t / den := by
  have s0 := o.s0
  obtain ⟨k, rfl⟩ := d2
  obtain ⟨j, hj⟩ := d1
  have e : lastT s none (x + den * k) = lastT s none x + den * k := by
    show (x + den * k) / s * s = x / s * s + den * k
    rw [hj, Int.add_mul_ediv_left _ _ (by omega), Int.add_mul, Int.mul_comm j s]
  have c : least ≤ lastT s none x := by
    have a := fst_ge o.l0 s0
    have b : fst least s / s * s ≤ x / s * s := Int.mul_le_mul_of_nonneg_right (Int.ediv_le_ediv (by omega) hx) (by omega)
    have d : fst least s / s * s = fst least s := by unfold fst; rw [Int.mul_ediv_cancel _ (by omega)]
    show least ≤ x / s * s
    omega
  have kk : num * (den * k) = den * (num * k) := by rw [← Int.mul_assoc, ← Int.mul_assoc, Int.mul_comm num den]
  by_cases c2 : least ≤ lastT s none (x + den * k)
  · unfold Fv
    rw [if_pos c, if_pos c2, e, Int.mul_add, kk, G_turn o.hm (by have := o.d0; omega), Int.mul_ediv_cancel_left _ (by have := o.d0; omega)]
  · rw [e] at c2
    omega
theorem Fv_flat (o : Dk m num den least s u) {v x : Int} (hu : u = some v) (hx : v ≤ x) : Fv m num den least s u (x + 1) = Fv m num den least s u x := by
  subst hu
  have e1 : lim (some v) x = v := by
    show (if v < x then v else x) = v
    split <;> omega
  have e2 : lim (some v) (x + 1) = v := by
    show (if v < x + 1 then v else x + 1) = v
    rw [if_pos (by omega)]
  unfold Fv lastT
  rw [e1, e2]
/-- the rule of one use: begin, turn and rise -/
theorem use_rule_ok (o : Dk m num den least s u) {B t : Nat} {R : Int} (t0 : 0 < t) (R0 : 0 ≤ R) (hB : B + t ≤ 1100) (hR : R ≤ 30000) (turn : ∀ x : Nat, B ≤ x → Fv m num den least s u ((x : Int) + (t : Int)) = Fv m num den least s u (x : Int) + R) :
    RuleOk ((List.range (B + t)).map fun x : Nat => Fv m num den least s u (x : Int)) t R ∧ (∀ x : Nat, vl ((List.range (B + t)).map fun x : Nat => Fv m num den least s u (x : Int)) t R x = Fv m num den least s u (x : Int)) ∧
      ∀ i, i < B + t → ((List.range (B + t)).map fun x : Nat => Fv m num den least s u (x : Int)).getD i 0 ≤ 100000 := by
  have tt : ∀ x : Nat, B ≤ x → (fun x : Nat => Fv m num den least s u (x : Int)) (x + t) = (fun x : Nat => Fv m num den least s u (x : Int)) x + R := by
    intro x hx
    have := turn x hx
    show Fv m num den least s u ((x + t : Nat) : Int) = _
    rw [Int.natCast_add]
    exact this
  refine ⟨tab_ok t0 R0 tt (fun x => Fv_nn o _) (fun x => ?_), tab_vl t0 tt, fun i hi => ?_⟩
  · show Fv m num den least s u (x : Int) ≤ Fv m num den least s u ((x + 1 : Nat) : Int)
    rw [Int.natCast_add]
    exact Fv_up o _
  · rw [tab_getD hi]
    have := Fv_le o (x := (i : Int)) (by omega)
    omega
end
end Sm

set_option Elab.async false
set_option linter.all false
set_option maxRecDepth 100000
set_option maxHeartbeats 4000000
namespace Sm
open PySem PySem.Spec PyProof.Rows L2
/-! ### values of all kinds as data, dicts with text keys and ints too -/
def kD : Key → PyData
  | .inl i => .int i
  | .inr x => .str x
mutual
inductive Dq (K : PySem.W.Frag) (H : Hp) : V → PyData → Prop
  | non : Dq K H .non .none
  | bl (b : Bool) : Dq K H (.bl b) (.bool b)
  | int (i : Int) : Dq K H (.int i) (.int i)
  | str (x : Str) : Dq K H (.str x) (.str x)
  | lst {a : Addr} {xs : List V} {ds : List PyData} : H a = some (.lst xs) → (a == sysModules) = false → DqAll K H xs ds → Dq K H (.ref a) (.list ds)
  | tup {a : Addr} {xs : List V} {ds : List PyData} : H a = some (.tup xs) → DqAll K H xs ds → Dq K H (.ref a) (.tuple ds)
  | dic {a : Addr} (kvs : List (Key × Int)) : H a = some (.dK (kvs.map fun q => (q.1, V.int q.2))) → Dq K H (.ref a) (.dict (kvs.map fun q => (kD q.1, PyData.int q.2)))
inductive DqAll (K : PySem.W.Frag) (H : Hp) : List V → List PyData → Prop
  | nil : DqAll K H [] []
  | cons {v : V} {vs : List V} {d : PyData} {ds : List PyData} : Dq K H v d → DqAll K H vs ds → DqAll K H (v :: vs) (d :: ds)
end
mutual
theorem Dq.mono {K : PySem.W.Frag} {H H' : Hp} (e : ∀ b o, H b = some o → H' b = some o) : ∀ (d : PyData) (v : V), Dq K H v d → Dq K H' v d
  | .none, _, h => by cases h; exact .non
  | .bool b, _, h => by cases h; exact .bl b
  | .int i, _, h => by cases h; exact .int i
  | .str x, _, h => by cases h; exact .str x
  | .list ds, _, h => by
    cases h with
    | lst hs ne ha => exact .lst (e _ _ hs) ne (Dq.monoAll e ds _ ha)
  | .tuple ds, _, h => by
    cases h with
    | tup hs ha => exact .tup (e _ _ hs) (Dq.monoAll e ds _ ha)
  | .dict _, _, h => by
    cases h with
    | dic kvs hk => exact .dic kvs (e _ _ hk)
theorem Dq.monoAll {K : PySem.W.Frag} {H H' : Hp} (e : ∀ b o, H b = some o → H' b = some o) : ∀ (ds : List PyData) (vs : List V), DqAll K H vs ds → DqAll K H' vs ds
  | [], _, h => by cases h; exact .nil
  | d :: ds, _, h => by
    cases h with
    | cons h1 h2 => exact .cons (Dq.mono e d _ h1) (Dq.monoAll e ds _ h2)
end
theorem Dq.same {K : PySem.W.Frag} {H H' : Hp} {v : V} {d : PyData} (h : Dq K H v d) (s : Same H H') : Dq K H' v d := Dq.mono (fun b o => s b o) d v h
section
variable {X : Cx} {pins : List (Addr × Obj)} {σ : L2.St} {H : Hp} {s : Shared}
theorem dic_keys {h : Heap} {P : Program} {w : World} : ∀ {es : List DictEntry} {vs : List (Key × Value)} {kvs : List (Key × Int)}, Pairs (mixKind P w) es vs → KV (kvs.map fun q => (q.1, V.int q.2)) vs →
    ReadsAll h (es.map (·.key)) (kvs.map fun q => kD q.1) [] ∧ ReadsAll h (es.map (·.val)) (kvs.map fun q => PyData.int q.2) []
  | [], _, kvs, .nil, r => by
    cases kvs with
    | nil => exact ⟨.nil, .nil⟩
    | cons a b => exact nomatch r
  | e :: es, _, kvs, .cons h1 h2 h3, r => by
    cases kvs with
    | nil => exact nomatch r
    | cons a b =>
      cases r with
      | cons r1 r2 =>
        obtain ⟨q1, q2⟩ := dic_keys (h := h) h3 r2
        obtain ⟨g1, g2⟩ := r1
        have g1 : a.1 = _ := g1
        have g2 : RelV (V.int a.2) _ := g2
        obtain ⟨t, g2⟩ := g2
        refine ⟨?_, ?_⟩
        · have hk : Reads h e.key (kD a.1) [] := by
            rcases keyIs_shape h1 with ⟨i, t, e1, e2⟩ | ⟨x, t, e1, e2⟩
            · rw [g1, e2, e1]
              exact .int i t
            · rw [g1, e2, e1]
              exact .str x t
          exact .cons hk q1
        · have hv : Reads h e.val (.int a.2) [] := by
            rw [h2, g2]
            exact .int _ t
          exact .cons hv q2
mutual
theorem Dq.reads (I : Inv X pins σ H s) : ∀ (d : PyData) (v : V) (u : Value), Dq X.K H v d → RelV v u → ∃ as, Reads s.heap u d as ∧ sysModules ∉ as
  | .none, _, _, h, r => by
    cases h
    cases r
    exact ⟨_, Reads.none, List.not_mem_nil⟩
  | .bool b, _, _, h, r => by
    cases h
    cases r
    exact ⟨_, Reads.bool b, List.not_mem_nil⟩
  | .int i, _, _, h, r => by
    cases h
    obtain ⟨t, rfl⟩ := r
    exact ⟨_, Reads.int i t, List.not_mem_nil⟩
  | .str x, _, _, h, r => by
    cases h
    obtain ⟨t, rfl⟩ := r
    exact ⟨_, Reads.str x t, List.not_mem_nil⟩
  | .list ds, _, _, h, r => by
    cases h with
    | lst hs ne ha =>
      cases r
      obtain ⟨its, rv, ⟨o, n, ho, hc, _, hd⟩, _⟩ := I.list (SqL.of hs)
      obtain ⟨as, hr, hm⟩ := Dq.readsAll I ds _ its ha rv
      refine ⟨_, Reads.list ho hc hd hr, fun m => ?_⟩
      rcases List.mem_cons.mp m with e | e
      · rw [← e, beq_self_eq_true] at ne
        cases ne
      · exact hm e
  | .tuple ds, _, _, h, r => by
    cases h with
    | tup hs ha =>
      cases r
      obtain ⟨its, rv, ⟨o, ho, hc, n, hd⟩, _⟩ := I.tuple (SqT.of hs)
      obtain ⟨as, hr, hm⟩ := Dq.readsAll I ds _ its ha rv
      exact ⟨_, Reads.tuple ho hc hd hr, hm⟩
  | .dict _, _, _, h, r => by
    cases h with
    | dic kvs hk =>
      cases r
      obtain ⟨_, hd, vs, kv, o, es, ep, h1, h2, h3, _, h4, _⟩ := dk_of I.hok hk
      obtain ⟨q1, q2⟩ := dic_keys (h := s.heap) h4 kv
      have e1 : (kvs.map fun q => (kD q.1, PyData.int q.2)).map (·.1) = kvs.map fun q => kD q.1 := by rw [List.map_map]; rfl
      have e2 : (kvs.map fun q => (kD q.1, PyData.int q.2)).map (·.2) = kvs.map fun q => PyData.int q.2 := by rw [List.map_map]; rfl
      refine ⟨_, Reads.dict h1 h2.1 h3 (by rw [e1]; exact q1) (by rw [e2]; exact q2), fun m => ?_⟩
      rw [List.append_nil] at m
      rw [← List.mem_singleton.mp m, beq_self_eq_true] at hd
      cases hd
theorem Dq.readsAll (I : Inv X pins σ H s) : ∀ (ds : List PyData) (vs : List V) (us : List Value), DqAll X.K H vs ds → Vals vs us → ∃ as, ReadsAll s.heap us ds as ∧ sysModules ∉ as
  | [], _, _, h, r => by
    cases h
    cases r
    exact ⟨_, ReadsAll.nil, List.not_mem_nil⟩
  | d :: ds, _, _, h, r => by
    cases h with
    | cons h1 h2 =>
      cases r with
      | cons r1 r2 =>
        obtain ⟨as, q1, m1⟩ := Dq.reads I d _ _ h1 r1
        obtain ⟨bs, q2, m2⟩ := Dq.readsAll I ds _ _ h2 r2
        refine ⟨_, ReadsAll.cons q1 q2, fun m => ?_⟩
        rcases List.mem_append.mp m with e | e
        · exact m1 e
        · exact m2 e
end
/-- the built-in class of such a value -/
def tyN : PyData → String
  | .none => "NoneType"
  | .bool _ => "bool"
  | .int _ => "int"
  | .str _ => "str"
  | .list _ => "list"
  | .tuple _ => "tuple"
  | .dict _ => "dict"
theorem Dq.ty {K : PySem.W.Frag} {v : V} {d : PyData} (h : Dq K H v d) : TyX K H v (.type (tyN d)) := by
  cases h with
  | non => exact .base .non
  | bl b => exact .base (.bl b)
  | int i => exact .base (.int i)
  | str x => exact .base (.str x)
  | lst e _ _ => exact .base (.lst e)
  | tup e _ => exact .base (.tup e)
  | dic kvs e => exact .base (.dK e)
end
def isT (n m : String) : Bool := m == n || (n == "int" && m == "bool")
def isOf (n : String) (d : PyData) : Bool := isT n (tyN d)
theorem kit_q {K : PySem.W.Frag} {n : String} {d : PyData} (h : n = "int" ∨ n = "bool" ∨ n = "str" ∨ n = "tuple" ∨ n = "list") : PySem.W.kitOne K (.type (tyN d)) (.type n) = some (isOf n d) := by
  refine kit_ty ?_
  unfold isOf
  have m : tyN d = "NoneType" ∨ tyN d = "bool" ∨ tyN d = "int" ∨ tyN d = "str" ∨ tyN d = "list" ∨ tyN d = "tuple" ∨ tyN d = "dict" := by
    cases d <;> simp [tyN]
  generalize tyN d = m' at m
  rcases h with rfl | rfl | rfl | rfl | rfl <;> rcases m with rfl | rfl | rfl | rfl | rfl | rfl | rfl <;> decide +kernel
section
variable {X : Cx}
/-- isinstance(x, T), x of any kind, T built in -/
def rIsQ (K : PySem.W.Frag) : List V → Hp → VK → Prop := fun xs H Q => ∃ (x : V) (d : PyData) (n : String), xs = [x, .ty n] ∧ Dq K H x d ∧ (n = "int" ∨ n = "bool" ∨ n = "str" ∨ n = "tuple" ∨ n = "list") ∧ Q (.bl (isOf n d)) H
theorem call_isQ : CallR X (.builtin "isinstance") (rIsQ X.K) := by
  intro pins s σ H xs us Q I r h
  obtain ⟨x, d, n, rfl, hd, hn, q⟩ := h
  exact call_isi pins s σ H _ us Q I r ⟨x, .ty n, _, _, _, rfl, .ty n, hd.ty, kit_q hn, q⟩
/-- repr of a value of any kind -/
def rReprQ (K : PySem.W.Frag) : List V → Hp → VK → Prop := fun xs H Q => ∃ v d, xs = [v] ∧ Dq K H v d ∧ PyData.showable d = true ∧ d.depth ≤ 60 ∧ d.shown.length ≤ sizeLine ∧ Q (.str d.shown) H
theorem call_reprQ (gu : X.A.guards = some []) (room : ∃ k, Room k X.A) : CallR X (.builtin "repr") (rReprQ X.K) := by
  intro pins s σ H xs us Q I rel want
  obtain ⟨v, d, rfl, data, sh, dep, len, q⟩ := want
  obtain ⟨u, rfl, ru⟩ := vals1 rel
  obtain ⟨as, reads, ns⟩ := Dq.reads I d _ u data ru
  obtain ⟨k, room⟩ := room
  have un := room.un
  have done : ∀ h' (v : Value) tk, (∀ b o, s.heap.get? b = some o → h'.get? b = some o) → (∃ t, v = Value.str d.shown t) → ∃ y H2, Inv X pins σ H2 { s with heap := h', toks := tk } ∧ RelV y v ∧ Q y H2 := fun h' v tk keep e => ⟨.str d.shown, H, I.kept keep, e, q⟩
  have at_ : ∀ a, u = .ref a → _ := fun a e => repr_of_reads' (A := X.A) (s := s) (prog := X.prog) (w := X.w) (E := X.xe) (Q := fun y s' => ∃ z H2, Inv X pins σ H2 s' ∧ RelV z y ∧ Q z H2) (by rw [← e]; exact reads) sh (fun _ => ns) gu (by omega) (fun _ _ e => e) (fun h' v tk keep => ⟨.str d.shown, H, I.kept keep, ⟨_, rfl⟩, q⟩) len
  cases data with
  | non =>
    cases ru
    exact PySem.P.repr_of_none ⟨.str _, H, I.tok _, ⟨_, rfl⟩, q⟩
  | bl b =>
    cases ru
    refine PySem.P.repr_of_bool ⟨.str _, H, I.tok _, ⟨_, rfl⟩, ?_⟩
    cases b <;> exact q
  | int i =>
    obtain ⟨t, rfl⟩ := ru
    exact PySem.P.repr_of_int (of_decide_eq_true (by simpa [PyData.showable] using sh)) ⟨.str _, H, I.tok _, ⟨_, rfl⟩, q⟩
  | str x =>
    obtain ⟨t, rfl⟩ := ru
    exact PySem.P.repr_of_str ⟨.str _, H, I.tok _, ⟨_, rfl⟩, q⟩ len
  | lst e1 e2 e3 =>
    cases ru
    exact at_ _ rfl
  | tup e1 e2 =>
    cases ru
    exact at_ _ rfl
  | dic kvs e1 =>
    cases ru
    exact at_ _ rfl
/-- a list is made: it is not sys.modules -/
def tLstN (t : TA) : TE := fun σ H Q => t σ H fun xs H1 => xs.length ≤ sizeLine ∧ ∀ p, H1 p = none → (p == sysModules) = false → Q (.ref p) (upd H1 p (.lst xs))
theorem pe_lstN {es : List Expr} {pos : Pos} {t : TA} (h : PA X es t) : PE X (.List es pos) (tLstN t) := by
  refine ⟨fun pins s σ H Q I hq => ?_⟩
  refine wpAny_List_spliced (thn (h.run pos pins s σ H _ I hq) fun us s1 ⟨xs, H1, I1, r, z, q⟩ => ⟨by rw [← r.length]; exact z, ?_⟩)
  have hf : H1 s1.heap.objs.size = none := I1.hok.fresh (Nat.le_refl _)
  have hs : (s1.heap.objs.size == sysModules) = false := beq_eq_false_iff_ne.mpr (Ne.symm (Nat.ne_of_lt I1.big))
  refine ⟨.ref s1.heap.objs.size, upd H1 s1.heap.objs.size (.lst xs), I1.laid (t' := s1.toks) (fun b u e => Heap.get?_push_of_some _ e) (Nat.le_refl _) ?_, rfl, q _ hf hs⟩
  exact ⟨z, us, 0, r, Heap.get?_push_size _ rfl⟩
/-- list(t) of a tuple -/
theorem call_listN : CallR X (.type "list") (fun xs H Q => ∃ p ys, xs = [.ref p] ∧ H p = some (.tup ys) ∧ ∀ l, H l = none → (l == sysModules) = false → Q (.ref l) (upd H l (.lst ys))) := by
  intro pins s σ H xs us Q I r h
  obtain ⟨p, ys, rfl, hq, q⟩ := h
  have hs : (s.heap.objs.size == sysModules) = false := beq_eq_false_iff_ne.mpr (Ne.symm (Nat.ne_of_lt I.big))
  obtain ⟨u, rfl, rx⟩ := vals1 r
  cases rx
  obtain ⟨its, r', pl, hz⟩ := I.tuple (SqT.of hq)
  have hlen := r'.length
  obtain ⟨o, ho, hc, n, hd⟩ := pl
  exact call_list_seq p (.inr rfl) ho hc hd (fun h' c' kp e => ⟨.ref s.heap.objs.size, _, I.laid (t' := s.toks) kp (Nat.le_refl _) (show ObjOk X.prog X.w _ h' _ (.lst ys) from ⟨hz, its, c', r', e⟩), rfl, q _ (I.hok.fresh (Nat.le_refl _)) hs⟩) (by simp only [List.size_toArray] <;> omega)
end
end Sm

set_option Elab.async false
set_option linter.all false
set_option maxRecDepth 100000
set_option maxHeartbeats 4000000
namespace Sm
open PySem PySem.Spec PyProof.Rows L2
/-! ### a tuple taken once, or no times -/
theorem tuple_once (l : Addr) (items : Array Value) (n : Nat) (dd : Option Addr) (sl : Array (Option Value)) (u : Tok) :
    Meets (Builtin.«tuple.__mul__» ⟨[.ref l, .int 1 u], []⟩) (fun _ R s => s.heap.get? l = some { cls := .type "tuple", dict := dd, data := .seq items n, slots := sl } ∧ R (.ok (.ret (Value.ref l))) s) :=
  .of_wp fun prog w A R s h => by
    obtain ⟨hp, g, d, tk, os⟩ := s
    obtain ⟨hl, h⟩ := h
    have f1 := AutoSeq1.idx_int
    have c0 : (decide ((1 : Int) < -(2 ^ 63)) || decide ((1 : Int) ≥ 2 ^ 63)) = false := by decide
    wp_walk using wpAny_loadPart' hl
    exact ⟨_, rfl, h⟩
theorem tuple_zero (l : Addr) (items : Array Value) (n : Nat) (dd : Option Addr) (sl : Array (Option Value)) (u : Tok) (hi : items.isEmpty = false) :
    Meets (Builtin.«tuple.__mul__» ⟨[.ref l, .int 0 u], []⟩) (fun _ R s => s.heap.get? l = some { cls := .type "tuple", dict := dd, data := .seq items n, slots := sl } ∧ R (.ok (.ret (Value.ref s.heap.objs.size))) { s with heap := s.heap.push { cls := Value.type "tuple", data := Data.seq #[] } }) :=
  .of_wp fun prog w A R s h => by
    obtain ⟨hp, g, d, tk, os⟩ := s
    obtain ⟨hl, h⟩ := h
    have f1 := AutoSeq1.idx_int
    wp_walk using wpAny_loadPart' hl
    exact ⟨_, rfl, h⟩
section
variable {X : Cx}
/-- tuple * int, the int from 0 on -/
theorem op_rep0 : OpR X (binaryOp .Mult) (fun x y H Q => ∃ (l : Addr) (k : Int) (xs : List V), x = .ref l ∧ y = .int k ∧ H l = some (.tup xs) ∧ xs ≠ [] ∧ 0 ≤ k ∧ k ≤ 1000 ∧ xs.length ≤ 1000 ∧
    ∀ H' q, Same H H' → H' q = some (.tup (List.replicate k.toNat xs).flatten) → Q (.ref q) H') := by
  intro pins s σ H x y v u Q I rx ry want
  obtain ⟨l, k, xs, rfl, rfl, hT, hne, h0, h1, hz, q⟩ := want
  by_cases big : 2 ≤ k
  · exact op_repT pins s σ H _ _ v u Q I rx ry ⟨l, k, xs, rfl, rfl, SqT.of hT, hne, big, h1, hz, fun p np => q _ p (fun b o e => by rw [upd_ne (ne_of_none e np)]; exact e) upd_same⟩
  cases rx
  obtain ⟨t, rfl⟩ := ry
  obtain ⟨its, r, ⟨⟨cls, dd, data, sl⟩, ho, hc, n, hd⟩, hs⟩ := I.tuple (SqT.of hT)
  simp only at hc hd
  subst hc hd
  have hi : its.toArray.isEmpty = false := by
    cases its with
    | nil =>
      have := r.length
      exact absurd (List.eq_nil_of_length_eq_zero this) hne
    | cons a b => rfl
  by_cases one : k = 1
  · subst one
    refine wpAny_binaryOp_repeat_ref (T := "tuple") (U := "int") (by decide) ⟨_, ho, rfl⟩ (fun s' => typeIs_int s' 1 t) noFill_tuple_mul F.fills_int_mul F.slot_int_rmul repeat_tuple F.slot_int_index.lookup
      (call_meets F.slot_int_rmul (typeIs_int s 1 t) F.entry_int_rmul (F.args_int_rmul_2 _ _) (int_rmul_tuple 1 t l its.toArray n dd sl) ⟨ho, rfl, ⟨_, ho, rfl⟩, ?_⟩)
    refine call_meets F.slot_tuple_mul ⟨_, ho, rfl⟩ F.entry_tuple_mul (F.args_tuple_mul_2 _ _) (tuple_once l its.toArray n dd sl t) ⟨ho, ?_⟩
    refine ⟨.ref l, H, I, rfl, q H l (Same.refl H) ?_⟩
    rw [hT]
    simp
  · have zero : k = 0 := by omega
    subst zero
    refine wpAny_binaryOp_repeat_ref (T := "tuple") (U := "int") (by decide) ⟨_, ho, rfl⟩ (fun s' => typeIs_int s' 0 t) noFill_tuple_mul F.fills_int_mul F.slot_int_rmul repeat_tuple F.slot_int_index.lookup
      (call_meets F.slot_int_rmul (typeIs_int s 0 t) F.entry_int_rmul (F.args_int_rmul_2 _ _) (int_rmul_tuple 0 t l its.toArray n dd sl) ⟨ho, rfl, ⟨_, ho, rfl⟩, ?_⟩)
    refine call_meets F.slot_tuple_mul ⟨_, ho, rfl⟩ F.entry_tuple_mul (F.args_tuple_mul_2 _ _) (tuple_zero l its.toArray n dd sl t hi) ⟨ho, ?_⟩
    have fresh := I.hok.fresh (Nat.le_refl s.heap.objs.size)
    refine ⟨.ref s.heap.objs.size, upd H s.heap.objs.size (.tup []), I.laid (t' := s.toks) (fun b ob e => Heap.get?_push_of_some _ e) (Nat.le_refl _) ?_, rfl, q _ _ (fun b o e => by rw [upd_ne (ne_of_none e fresh)]; exact e) upd_same⟩
    exact ⟨Nat.zero_le _, [], .nil, IsTup.new _ _⟩
end
end Sm

set_option Elab.async false
set_option linter.all false
set_option maxRecDepth 100000
set_option maxHeartbeats 8000000
namespace Sm
open PySem PySem.Spec PyProof.Rows L2
open C8 (pss_cut tCut)
def topS (i : Nat) : Stmt := PySem.Challenge.pw_smallchange_k76_desks_judged.main.body.getD i (.Pass ⟨0, 0, 0, 0⟩)
structure Txt (mg : Str → Option Value) : Prop where
  n_abs : mg "abs" = none
  n_bool : mg "bool" = none
  n_int : mg "int" = none
  n_isinstance : mg "isinstance" = none
  n_len : mg "len" = none
  n_list : mg "list" = none
  n_range : mg "range" = none
  n_repr : mg "repr" = none
  n_str : mg "str" = none
  n_tuple : mg "tuple" = none
  c_MAX_KINDS : ∃ t, mg "MAX_KINDS" = some (.int 4 t)
  c_MAX_AMOUNT : ∃ t, mg "MAX_AMOUNT" = some (.int 30 t)
  c_MAX_RATE : ∃ t, mg "MAX_RATE" = some (.int 30 t)
  c_MAX_MOST : ∃ t, mg "MAX_MOST" = some (.int 1000 t)
section
variable {P : Program} {w : World} {K : PySem.W.Frag} {mg : Str → Option Value} {base : Heap}
abbrev s_l_deck : Stmt := topS 12
abbrev N_l_deck : List Str := ["_law_script", "_law_cell"]
theorem sc_l_deck : FnScope N_l_deck ["_law_script"] (defScope s_l_deck) := ⟨rfl, rfl, rfl, by decide +kernel, rfl, by decide +kernel, by decide +kernel⟩
theorem ok_l_deck (T : Txt mg) (D : Df K mg "_law_deck" s_l_deck ["_law_script"]) : Cal P w K mg base "_law_deck" ["_law_script"] 1 (sp_l_deck K) := by
  refine D.cal sc_l_deck (fun vs H Q E h => ?_) (fun f cdv A outer s H vs Q E hr h => ?_)
  · obtain ⟨a, ns, rfl, _⟩ := h
    rfl
  obtain ⟨a, ns, rfl, hS, hlen, k⟩ := h
  refine ⟨_, (pss_one (ps_ret (pe_lst (pa_cons (pe_lc (own := [("_law_cell", 1)]) (g := gName 1) (tt := tYes) rfl sc_l_deck.nd (pi_list (pe_slice sl_list (pv 0) po_none (po_some pe_int))) (blkOk_by (own := [("_law_cell", 1)]) (N := N_l_deck) (sc := defScope s_l_deck) (by decide +kernel)) (fun _ _ _ _ _ => pg_name (i := 1) sc_l_deck.nd rfl (Or.inl rfl)) (fun _ _ _ _ _ => pts_nil) (fun _ _ _ _ _ => (pe_callB call_abs (by rfl) T.n_abs (by decide +kernel) (pa_cons (pv 1) pa_nil)))) (pa_cons pe_int pa_nil))))), ?_⟩
  refine ⟨_, rfl, _, rfl, a, _, rfl, hS, fun c nc => ?_⟩
  rw [cut63 hlen]
  have s1 := same_upd (o := .lst (ns.map V.int)) nc
  refine ⟨c, rfl, ⟨_, SqL.of upd_same⟩, fun D nD => ?_⟩
  have s2 := s1.trans (same_upd (o := .lst []) nD)
  have hc2 : upd (upd H c (.lst (ns.map V.int))) D (.lst []) c = some (.lst (ns.map V.int)) := same_upd nD _ _ upd_same
  refine lc_list (K := K) (a := c) (xs := ns.map V.int) (fun i H' => Same H H' ∧ H' c = some (.lst (ns.map V.int)) ∧ c ≠ D ∧ H D = none ∧ H' D = some (.lst (((ns.take i).map absI).map V.int)))
    ⟨s2, hc2, ne_of_none upd_same nD, s1.free nD, upd_same⟩ (fun i H' _ h => SqL.of h.2.1) ?_ ?_
  · rintro i x H' hx ⟨sm, hc, ncD, nD0, hD⟩
    rw [List.getElem?_map] at hx
    cases e : ns[i]? with
    | none => rw [e] at hx; cases hx
    | some y =>
      rw [e] at hx
      have ex : x = .int y := (Option.some.inj hx).symm
      subst ex
      refine ⟨rfl, ?_⟩
      unfold tYes
      refine iteT ?_
      refine ⟨_, rfl, _, rfl, _, hD, ?_, ?_⟩
      · rw [List.length_map, List.length_map, List.length_take]
        exact Nat.lt_of_le_of_lt (Nat.min_le_right _ _) (small1000 (by omega))
      · refine ⟨fun b o e => ?_, ?_, ncD, nD0, ?_⟩
        · rw [upd_ne (ne_of_none e nD0)]
          exact sm _ _ e
        · rw [upd_ne ncD]
          exact hc
        · rw [upd_same, List.take_add_one, e, List.map_append, List.map_append]
          rfl
  · rintro H' ⟨sm, hc, ncD, nD0, hD⟩
    refine ⟨(by show 2 ≤ sizeLine; decide), fun p np => ?_⟩
    have s3 := sm.trans (same_upd (o := .lst [.ref D, .int 0]) np)
    refine k _ p D s3 ⟨upd_same, _, (same_upd np) _ _ hD, fun c hc => ?_, ?_⟩
    · obtain ⟨y, _, rfl⟩ := List.mem_map.mp hc
      exact absI_pos y
    · rw [List.length_map, List.length_take]
      omega
abbrev s_l_draw : Stmt := topS 13
abbrev N_l_draw : List Str := ["_law_deck_here", "_law_many", "_law_cell", "_law_place", "_law_mixed"]
theorem sc_l_draw : FnScope N_l_draw ["_law_deck_here", "_law_many"] (defScope s_l_draw) := ⟨rfl, rfl, rfl, by decide +kernel, rfl, by decide +kernel, by decide +kernel⟩
theorem ok_l_draw (T : Txt mg) (D : Df K mg "_law_draw" s_l_draw ["_law_deck_here", "_law_many"]) : Cal P w K mg base "_law_draw" ["_law_deck_here", "_law_many"] 1 (sp_l_draw K) := by
  refine D.cal sc_l_draw (fun vs H Q E h => ?_) (fun f cdv A outer s H vs Q E hr h => ?_)
  · obtain ⟨p, l, n, m, rfl, _⟩ := h
    rfl
  obtain ⟨p, l, n, m, rfl, D, n0, n1, m0, m1, k⟩ := h
  obtain ⟨cells, hl, hc, h63⟩ := D.hl
  have npl : p ≠ l := ne_of D.hp hl deck_ne
  refine ⟨_, (pss_cons (ps_asg (pe_op op_add (pe_ix ix_list (pv 0) pe_int (fun _ _ => rfl)) pe_int) (pg_sub (pv 0) pe_int set_list))
    (pss_cons (ps_asg (pe_tup (pa_cons pe_int (pa_cons (pe_un un_neg pe_int) pa_nil))) (pg_tup (by rfl) (pgs_cons (pg_name (i := 2) sc_l_draw.nd rfl (Or.inl rfl)) (pgs_cons (pg_name (i := 3) sc_l_draw.nd rfl (Or.inl rfl)) pgs_nil))))
    (pss_cut (ps_if (pt_cmpR op_gt (pe_callB call_len_seq (by rfl) T.n_len (by decide +kernel) (pa_cons (pe_ix ix_list (pv 0) pe_int (fun _ _ => rfl)) pa_nil)) pe_int (nomark _)) (pss_cons (ps_set (i := 3) sc_l_draw.nd rfl (Or.inl rfl) (pe_op op_modN (pe_callTy call_int1 (by rfl) T.n_int (by decide +kernel) (pa_cons (pe_ix ix_list (pv 0) pe_int (fun _ _ => rfl)) pa_nil)) (pe_callB call_len_seq (by rfl) T.n_len (by decide +kernel) (pa_cons (pe_ix ix_list (pv 0) pe_int (fun _ _ => rfl)) pa_nil))))
    (pss_one (ps_set (i := 2) sc_l_draw.nd rfl (Or.inl rfl) (pe_ix ix_list (pe_ix ix_list (pv 0) pe_int (fun _ _ => rfl)) (pv 3) (fun _ _ => rfl))))) pss_nil)
    (pss_cons (ps_if (pt_cmpR op_ge (pv 2) (pe_op op_pow pe_int pe_int) (nomark _)) (pss_cons (ps_asg (pe_op op_fdivW (pe_callTy call_int1 (by rfl) T.n_int (by decide +kernel) (pa_cons (pv 2) pa_nil)) (pv 1)) (pg_sub (pe_ix ix_list (pv 0) pe_int (fun _ _ => rfl)) (pv 3) set_list))
    (pss_one (ps_ret (pe_op op_modN (pe_callTy call_int1 (by rfl) T.n_int (by decide +kernel) (pa_cons (pv 2) pa_nil)) (pv 1))))) pss_nil)
    (pss_cons (ps_set (i := 4) sc_l_draw.nd rfl (Or.inl rfl) (pe_op op_add (pe_op op_add (pe_op op_modN (pe_callTy call_int1 (by rfl) T.n_int (by decide +kernel) (pa_cons (pv 2) pa_nil)) pe_int) (pe_op op_mul pe_int (pe_ix ix_list (pv 0) pe_int (fun _ _ => rfl)))) pe_int))
    (pss_one (ps_ret (pe_op op_modN (pe_callTy call_int1 (by rfl) T.n_int (by decide +kernel) (pa_cons (pe_op op_modN (pe_callTy call_int1 (by rfl) T.n_int (by decide +kernel) (pa_cons (pe_op op_pow (pv 4) pe_int) pa_nil)) pe_int) pa_nil)) (pv 1))))))))), ?_⟩
  refine ⟨_, rfl, _, _, _, _, rfl, rfl, SqL.of D.hp, atI_nat (j := 1) rfl, _, _, rfl, rfl, _, rfl, _, _, _, _, rfl, rfl, D.hp, rfl, ?_⟩
  generalize hH0 : upd H p (HO.lst (List.set [V.ref l, V.int n] (Int.toNat 1) ((fun i j => V.int (i + j)) n 1))) = H0
  have hH0 : upd H p (.lst [.ref l, .int (n + 1)]) = H0 := hH0
  have f0 : Fr p l H H0 := fun b o h1 _ h => by rw [← hH0, upd_ne h1]; exact h
  have hl0 : H0 l = some (.lst (cells.map V.int)) := by rw [← hH0, upd_ne npl.symm]; exact hl
  have hp0 : H0 p = some (.lst [.ref l, .int (n + 1)]) := by rw [← hH0, upd_same]
  refine ⟨_, rfl, (by show 2 ≤ sizeLine; decide), fun t nt => ?_⟩
  refine ⟨_, _, rfl, SqT.of upd_same, rfl, _, _, rfl, _, _, rfl, rfl, ?_⟩
  have st := same_upd (o := .tup [.int 0, .int (-1)]) nt
  have hp1 := st _ _ hp0
  have hl1 := st _ _ hl0
  have f1 := f0.trans (Same.fr (p := p) (l := l) st)
  generalize upd H0 t (HO.tup [V.int 0, V.int (-1)]) = H1 at hp1 hl1 f1 ⊢
  refine ⟨fun σ H' => ∃ c pl : Int, σ = [some (.ref p), some (.int m), some (.int c), some (.int pl), none] ∧ H' = H1 ∧ 0 ≤ c ∧ (1000000000000000000 ≤ c → 0 ≤ pl ∧ pl.toNat < cells.length ∧ pl < cells.length), ?_, ?_⟩
  · refine ⟨_, rfl, _, _, _, _, rfl, rfl, SqL.of hp1, atI_nat (j := 0) rfl, _, _, rfl, .inl (SqL.of hl1), _, _, rfl, rfl, _, rfl, ite3 (fun e => ?_) (fun e => ?_)⟩
    · rw [List.length_map] at e
      have fm : (n + 1).fmod cells.length = (n + 1) % cells.length := fmod_pos (by omega)
      have q0 : 0 ≤ (n + 1).fmod cells.length := by rw [fm]; exact Int.emod_nonneg _ (by omega)
      have q1 : (n + 1).fmod cells.length < cells.length := by rw [fm]; exact Int.emod_lt_of_pos _ (by omega)
      have q2 : ((n + 1).fmod cells.length).toNat < cells.length := by omega
      have q3 : (n + 1).fmod cells.length = (((n + 1).fmod cells.length).toNat : Int) := by omega
      have q4 : (cells.map V.int)[((n + 1).fmod cells.length).toNat]? = some (.int cells[((n + 1).fmod cells.length).toNat]) := by
        rw [List.getElem?_map, List.getElem?_eq_getElem q2]
        rfl
      have ln : ((cells.map V.int).length : Int) = cells.length := by rw [List.length_map]
      refine ⟨_, rfl, _, _, _, _, rfl, rfl, SqL.of hp1, atI_nat (j := 1) rfl, .inl ⟨_, rfl, _, rfl, _, _, _, _, rfl, rfl, SqL.of hp1, atI_nat (j := 0) rfl, _, _, rfl, .inl (SqL.of hl1), _, _, rfl, rfl, (by rw [ln]; omega), ?_⟩⟩
      have z : ∀ B : Int → Prop, B ((n + 1).fmod cells.length) → B ((n + 1).fmod ((cells.map V.int).length : Int)) := fun B h => by rw [ln]; exact h
      refine z (fun y => gName 3 (.int y) _ _ _) ?_
      refine ⟨_, rfl, _, _, _, _, rfl, rfl, SqL.of hp1, atI_nat (j := 0) rfl, _, rfl, _, _, _, _, rfl, rfl, SqL.of hl1, at_of q3 q4, ?_⟩
      exact ⟨_, _, rfl, rfl, hc _ (List.getElem_mem q2), fun _ => ⟨q0, q2, q1⟩⟩
    · exact ⟨0, -1, rfl, rfl, Int.le_refl _, fun h => absurd h (by decide)⟩
  · rintro σ H' ⟨c, pl, rfl, rfl, c0, hpl⟩
    refine ⟨_, rfl, _, _, rfl, rfl, ⟨by decide, by decide, by decide⟩, _, _, rfl, rfl, _, rfl, ite3 (fun e => ?_) (fun e => ?_)⟩
    · have e : 1000000000000000000 ≤ c := e
      obtain ⟨p0, p1, p2⟩ := hpl e
      have ix : ixN (cells.map V.int).length pl = some pl.toNat := by
        unfold ixN
        rw [if_pos p0, if_pos (by rw [List.length_map]; exact p2)]
      refine ⟨_, rfl, .inl ⟨_, rfl, _, rfl, _, _, rfl, rfl, div_draw m0 m1, _, rfl, _, _, _, _, rfl, rfl, SqL.of hp1, atI_nat (j := 0) rfl, _, rfl, _, _, _, _, rfl, rfl, hl1, ix, ?_⟩⟩
      refine ⟨_, rfl, .inl ⟨_, rfl, _, rfl, _, _, rfl, rfl, (by omega), ?_⟩⟩
      have fm : c.fmod m = c % m := fmod_pos m0
      refine k _ _ (by rw [fm]; exact Int.emod_nonneg _ (by omega)) (by rw [fm]; exact Int.emod_lt_of_pos _ m0) (f1.trans fun b o _ h2 h => by rw [upd_ne h2]; exact h) ⟨by rw [upd_ne npl]; exact hp1, cells.set pl.toNat (c / m), by rw [upd_same, List.map_set], fun y hy => ?_, by rw [List.length_set]; exact h63⟩
      rcases List.mem_or_eq_of_mem_set hy with q | q
      · exact hc y q
      · rw [q]; exact Int.ediv_nonneg c0 (by omega)
    · refine ⟨_, rfl, .inl ⟨_, rfl, _, _, rfl, rfl, (show (2147483587 : Int) ≠ 0 by decide), _, rfl, _, _, _, _, rfl, rfl, SqL.of hp1, atI_nat (j := 1) rfl, _, _, rfl, rfl, .inl ⟨by decide, by decide⟩, _, _, rfl, rfl, _, _, rfl, rfl, ?_⟩⟩
      have fm : c.fmod 2147483587 = c % 2147483587 := fmod_pos (by decide)
      have h0 := Int.emod_nonneg c (show (2147483587 : Int) ≠ 0 by decide)
      have h1 := Int.emod_lt_of_pos c (show (0 : Int) < 2147483587 by decide)
      refine ⟨_, rfl, _, _, rfl, rfl, ⟨by decide, by decide, by rw [fm]; omega⟩, .inl ⟨_, rfl, _, _, rfl, rfl, (show (2147483647 : Int) ≠ 0 by decide), .inl ⟨_, rfl, _, rfl, _, _, rfl, rfl, (by omega), ?_⟩⟩⟩
      refine k _ _ ?_ ?_ f1 ⟨hp1, cells, hl1, hc, h63⟩
      · rw [fmod_pos m0]; exact Int.emod_nonneg _ (by omega)
      · rw [fmod_pos m0]; exact Int.emod_lt_of_pos _ m0
abbrev s_l_one : Stmt := topS 14
abbrev N_l_one : List Str := ["_law_deck_here", "_law_items"]
theorem sc_l_one : FnScope N_l_one ["_law_deck_here", "_law_items"] (defScope s_l_one) := ⟨rfl, rfl, rfl, by decide +kernel, rfl, by decide +kernel, by decide +kernel⟩
theorem ok_l_one (T : Txt mg) (D : Df K mg "_law_one" s_l_one ["_law_deck_here", "_law_items"]) (C_l_draw : Cal P w K mg base "_law_draw" ["_law_deck_here", "_law_many"] 1 (sp_l_draw K)) : Cal P w K mg base "_law_one" ["_law_deck_here", "_law_items"] 2 (sp_l_one K) := by
  obtain ⟨f_l_draw, fd_l_draw, G_l_draw, m_l_draw, k_l_draw, b_l_draw⟩ := C_l_draw
  refine D.cal sc_l_one (fun vs H Q E h => ?_) (fun f cdv A outer s H vs Q E hr h => ?_)
  · obtain ⟨p, l, b, n, xs, rfl, _⟩ := h
    rfl
  obtain ⟨p, l, b, n, xs, rfl, D, n0, n1, hb, bp, bl, x0, x1, k⟩ := h
  refine ⟨_, (pss_one (ps_ret (pe_ix ix_list (pv 1) (pe_call G_l_draw (hr.mono (by decide)) (by rfl) m_l_draw k_l_draw b_l_draw .nil pass0 (pa_cons (pv 0) (pa_cons (pe_callB call_len_seq (by rfl) T.n_len (by decide +kernel) (pa_cons (pv 1) pa_nil)) pa_nil))) (fun _ _ => rfl)))), ?_⟩
  refine ⟨_, rfl, _, rfl, _, rfl, _, _, rfl, .inl (SqL.of hb), p, l, n, _, rfl, D, n0, n1, (by omega), (by omega), fun r H' r0 r1 f D' => ?_⟩
  have q : r.toNat < xs.length := by omega
  refine ⟨_, _, _, _, rfl, rfl, SqL.of (f b _ bp bl hb), at_of (j := r.toNat) (by omega) (List.getElem?_eq_getElem q), ?_⟩
  exact k _ H' (List.getElem_mem q) f D'
end
end Sm

set_option Elab.async false
set_option linter.all false
set_option maxRecDepth 100000
set_option maxHeartbeats 8000000
namespace Sm
open PySem PySem.Spec PyProof.Rows L2
open C8 (pss_cut tCut)
def hs (m : Nat) : Str := if m = 0 then "down" else if m = 1 then "up" else "near"
theorem hs_down {m : Nat} (h : m ≤ 2) : V.str (hs m) = V.str "down" ↔ m = 0 := by
  obtain rfl | rfl | rfl : m = 0 ∨ m = 1 ∨ m = 2 := by omega
  all_goals decide +kernel
theorem hs_up {m : Nat} (h : m ≤ 2) : V.str (hs m) = V.str "up" ↔ m = 1 := by
  obtain rfl | rfl | rfl : m = 0 ∨ m = 1 ∨ m = 2 := by omega
  all_goals decide +kernel
def upV : Option Int → V
  | none => .non
  | some v => .int v
abbrev deskV (ka kb : Int) (m : Nat) (num den least step : Int) (u : Option Int) : List V := [.int ka, .int kb, .int num, .int den, .str (hs m), .int least, .int step, upV u]
section
variable {m : Nat} {num den least step x : Int} {u : Option Int}
theorem Dk.div (o : Dk m num den least step u) : CDivW x den := by
  have := o.d0
  have := o.d1
  exact wide_div (b := 10) (by omega) (by omega) (by decide) (by decide)
theorem Dk.div2 (o : Dk m num den least step u) : CDivW x (2 * den) := by
  have := o.d0
  have := o.d1
  exact wide_div (b := 10) (by omega) (by omega) (by decide) (by decide)
theorem Dk.divS (o : Dk m num den least step u) : CDivW x step := by
  have := o.s0
  have := o.s1
  exact wide_div (b := 10) (by omega) (by omega) (by decide) (by decide)
end
def sp_takes (K : PySem.W.Frag) : Sp := fun vs H Q _ => ∃ (d : Addr) (x : Int) (ka kb : Int) (m : Nat) (num den least step : Int) (u : Option Int), vs = [.ref d, .int x] ∧ H d = some (.tup (deskV ka kb m num den least step u)) ∧ Dk m num den least step u ∧
  ∀ H' b, Same H H' → (b = true ↔ Tk least step u x) → Q (.bl b) H'
def sp_gives (K : PySem.W.Frag) : Sp := fun vs H Q _ => ∃ (d : Addr) (x : Int) (ka kb : Int) (m : Nat) (num den least step : Int) (u : Option Int), vs = [.ref d, .int x] ∧ H d = some (.tup (deskV ka kb m num den least step u)) ∧ Dk m num den least step u ∧
  ∀ H', Same H H' → (Tk least step u x → Q (.int (Gm m (num * x) den)) H') ∧ (¬ Tk least step u x → Q .non H')
/-- an int within bounds -/
def inI : PyData → Int → Int → Bool
  | .int i, lo, hi => decide (lo ≤ i) && decide (i ≤ hi)
  | _, _, _ => false
def isW : PyData → Bool
  | .int _ => true
  | _ => false
theorem of_int (d : PyData) : isOf "int" d = (match d with | .int _ => true | .bool _ => true | _ => false) := by
  cases d <;> simp [isOf, isT, tyN]
theorem of_bool (d : PyData) : isOf "bool" d = (match d with | .bool _ => true | _ => false) := by
  cases d <;> simp [isOf, isT, tyN]
theorem chain_in {i lo hi : Int} {σ : L2.St} {H : Hp} {Q : VK} (h0 : σ[0]? = some (some (.int i))) (h1 : σ[1]? = some (some (.int lo))) (h2 : σ[2]? = some (some (.int hi))) (h : Q (.bl (decide (lo ≤ i) && decide (i ≤ hi))) H) :
    tChain (rI0 fun i j => V.bl (decide (i ≤ j))) (rI0 fun i j => V.bl (decide (i ≤ j))) (tVar 1) (tVar 0) (tVar 2) σ H Q := by
  refine ⟨_, h1, _, h0, _, _, rfl, rfl, _, rfl, ?_⟩
  by_cases c : lo ≤ i
  · rw [decide_eq_true c] at h ⊢
    exact iteT ⟨_, h2, _, _, rfl, rfl, h⟩
  · rw [decide_eq_false c] at h ⊢
    exact iteF h
def sp_is_whole (K : PySem.W.Frag) : Sp := fun vs H Q _ => ∃ (v : V) (d : PyData), vs = [v] ∧ Dq K H v d ∧ Q (.bl (isW d)) H
def sp_is_within (K : PySem.W.Frag) : Sp := fun vs H Q _ => ∃ (v : V) (d : PyData) (lo hi : Int), vs = [v, .int lo, .int hi] ∧ Dq K H v d ∧ Q (.bl (inI d lo hi)) H
abbrev sp_l_is_between := sp_is_within
def sp_l_gives (_ : PySem.W.Frag) : Sp := fun vs H Q _ => ∃ (d : Addr) (x : Int) (ka kb : Int) (m : Nat) (num den least step : Int) (u : Option Int), vs = [.ref d, .int x] ∧ H d = some (.tup (deskV ka kb m num den least step u)) ∧ Dk m num den least step u ∧
  (Tk least step u x → Q (.int (Gm m (num * x) den)) H) ∧ (¬ Tk least step u x → Q .non H)
section
variable {P : Program} {w : World} {K : PySem.W.Frag} {mg : Str → Option Value} {base : Heap}
abbrev s_is_whole : Stmt := topS 5
abbrev N_is_whole : List Str := ["value"]
theorem sc_is_whole : FnScope N_is_whole ["value"] (defScope s_is_whole) := ⟨rfl, rfl, rfl, by decide +kernel, rfl, by decide +kernel, by decide +kernel⟩
theorem ok_is_whole (T : Txt mg) (D : Df K mg "is_whole" s_is_whole ["value"]) : Cal P w K mg base "is_whole" ["value"] 1 (sp_is_whole K) := by
  refine D.cal sc_is_whole (fun vs H Q E h => ?_) (fun f cdv A outer s H vs Q E hr h => ?_)
  · obtain ⟨v, d, rfl, _⟩ := h
    rfl
  obtain ⟨v, d, rfl, hd, k⟩ := h
  refine ⟨_, (pss_one (ps_ret (pe_and (pe_callB call_isQ (by rfl) T.n_isinstance (by decide +kernel) (pa_cons (pv 0) (pa_cons (pe_bltn (v := .ty "int") (by rfl) T.n_int (by decide +kernel) rfl) pa_nil))) (pe_one (pe_not (pe_callB call_isQ (by rfl) T.n_isinstance (by decide +kernel) (pa_cons (pv 0) (pa_cons (pe_bltn (v := .ty "bool") (by rfl) T.n_bool (by decide +kernel) rfl) pa_nil)))))))), ?_⟩
  refine ⟨_, rfl, v, d, "int", rfl, hd, .inl rfl, _, rfl, ?_⟩
  rw [of_int]
  cases hd with
  | non => exact iteF k
  | bl b => exact iteT ⟨_, rfl, _, .bool b, "bool", rfl, .bl b, .inr (.inl rfl), _, rfl, by rw [of_bool]; exact k⟩
  | int i => exact iteT ⟨_, rfl, _, .int i, "bool", rfl, .int i, .inr (.inl rfl), _, rfl, by rw [of_bool]; exact k⟩
  | str x => exact iteF k
  | lst e1 e2 e3 => exact iteF k
  | tup e1 e2 => exact iteF k
  | dic kvs e1 => exact iteF k
abbrev s_is_within : Stmt := topS 6
abbrev N_is_within : List Str := ["value", "low", "high"]
theorem sc_is_within : FnScope N_is_within ["value", "low", "high"] (defScope s_is_within) := ⟨rfl, rfl, rfl, by decide +kernel, rfl, by decide +kernel, by decide +kernel⟩
theorem ok_is_within (T : Txt mg) (D : Df K mg "is_within" s_is_within ["value", "low", "high"]) (C_is_whole : Cal P w K mg base "is_whole" ["value"] 1 (sp_is_whole K)) : Cal P w K mg base "is_within" ["value", "low", "high"] 2 (sp_is_within K) := by
  obtain ⟨f_is_whole, fd_is_whole, G_is_whole, m_is_whole, k_is_whole, b_is_whole⟩ := C_is_whole
  refine D.cal sc_is_within (fun vs H Q E h => ?_) (fun f cdv A outer s H vs Q E hr h => ?_)
  · obtain ⟨v, d, lo, hi, rfl, _⟩ := h
    rfl
  obtain ⟨v, d, lo, hi, rfl, hd, k⟩ := h
  refine ⟨_, (pss_one (ps_ret (pe_and (pe_call G_is_whole (hr.mono (by decide)) (by rfl) m_is_whole k_is_whole b_is_whole .nil pass0 (pa_cons (pv 0) pa_nil)) (pe_one (pe_chain op_le op_le (pv 1) (pv 0) (pv 2)))))), ?_⟩
  refine ⟨_, rfl, v, d, rfl, hd, _, rfl, ?_⟩
  cases hd with
  | int i => exact iteT (chain_in rfl rfl rfl k)
  | non => exact iteF k
  | bl b => exact iteF k
  | str x => exact iteF k
  | lst e1 e2 e3 => exact iteF k
  | tup e1 e2 => exact iteF k
  | dic kvs e1 => exact iteF k
abbrev s_l_is_between : Stmt := topS 15
abbrev N_l_is_between : List Str := ["_law_value", "_law_low", "_law_high"]
theorem sc_l_is_between : FnScope N_l_is_between ["_law_value", "_law_low", "_law_high"] (defScope s_l_is_between) := ⟨rfl, rfl, rfl, by decide +kernel, rfl, by decide +kernel, by decide +kernel⟩
theorem ok_l_is_between (T : Txt mg) (D : Df K mg "_law_is_between" s_l_is_between ["_law_value", "_law_low", "_law_high"]) : Cal P w K mg base "_law_is_between" ["_law_value", "_law_low", "_law_high"] 1 (sp_l_is_between K) := by
  refine D.cal sc_l_is_between (fun vs H Q E h => ?_) (fun f cdv A outer s H vs Q E hr h => ?_)
  · obtain ⟨v, d, lo, hi, rfl, _⟩ := h
    rfl
  obtain ⟨v, d, lo, hi, rfl, hd, k⟩ := h
  refine ⟨_, (pss_one (ps_ret (pe_and (pe_callB call_isQ (by rfl) T.n_isinstance (by decide +kernel) (pa_cons (pv 0) (pa_cons (pe_bltn (v := .ty "int") (by rfl) T.n_int (by decide +kernel) rfl) pa_nil))) (pe_and (pe_not (pe_callB call_isQ (by rfl) T.n_isinstance (by decide +kernel) (pa_cons (pv 0) (pa_cons (pe_bltn (v := .ty "bool") (by rfl) T.n_bool (by decide +kernel) rfl) pa_nil)))) (pe_one (pe_chain op_le op_le (pv 1) (pv 0) (pv 2))))))), ?_⟩
  refine ⟨_, rfl, v, d, "int", rfl, hd, .inl rfl, _, rfl, ?_⟩
  rw [of_int]
  cases hd with
  | int i => exact iteT ⟨_, rfl, _, .int i, "bool", rfl, .int i, .inr (.inl rfl), _, rfl, _, rfl, by rw [of_bool]; exact iteT (chain_in rfl rfl rfl k)⟩
  | bl b => exact iteT ⟨_, rfl, _, .bool b, "bool", rfl, .bl b, .inr (.inl rfl), _, rfl, _, rfl, by rw [of_bool]; exact iteF k⟩
  | non => exact iteF k
  | str x => exact iteF k
  | lst e1 e2 e3 => exact iteF k
  | tup e1 e2 => exact iteF k
  | dic kvs e1 => exact iteF k
end
end Sm

set_option Elab.async false
set_option linter.all false
set_option maxRecDepth 100000
set_option maxHeartbeats 8000000
namespace Sm
open PySem PySem.Spec PyProof.Rows L2
open C8 (pss_cut tCut)
section
variable {P : Program} {w : World} {K : PySem.W.Frag} {mg : Str → Option Value} {base : Heap}
abbrev s_takes : Stmt := topS 9
abbrev N_takes : List Str := ["desk", "x", "least", "step", "most"]
theorem sc_takes : FnScope N_takes ["desk", "x"] (defScope s_takes) := ⟨rfl, rfl, rfl, by decide +kernel, rfl, by decide +kernel, by decide +kernel⟩
theorem ok_takes (T : Txt mg) (D : Df K mg "takes" s_takes ["desk", "x"]) : Cal P w K mg base "takes" ["desk", "x"] 1 (sp_takes K) := by
  refine D.cal sc_takes (fun vs H Q E h => ?_) (fun f cdv A outer s H vs Q E hr h => ?_)
  · obtain ⟨d, x, ka, kb, m, num, den, least, step, u, rfl, _⟩ := h
    rfl
  obtain ⟨d, x, ka, kb, m, num, den, least, step, u, rfl, hd, o, k⟩ := h
  refine ⟨_, (pss_cons (ps_asg (pe_slice sl_tup (pv 0) (po_some pe_int) po_none) (pg_tup (by rfl) (pgs_cons (pg_name (i := 2) sc_takes.nd rfl (Or.inl rfl)) (pgs_cons (pg_name (i := 3) sc_takes.nd rfl (Or.inl rfl)) (pgs_cons (pg_name (i := 4) sc_takes.nd rfl (Or.inl rfl)) pgs_nil)))))
    (pss_one (ps_ret (pe_and (pe_cmpR op_ge (pv 1) (pv 2) (nomark _)) (pe_and (pe_cmpR op_eq (pe_op op_modN (pv 1) (pv 3)) pe_int (nomark _)) (pe_one (pe_or (pe_cmpR op_isN (pv 4) pe_non (nomark _)) (pe_one (pe_cmpR op_le (pv 1) (pv 4) (nomark _)))))))))), ?_⟩
  refine ⟨_, rfl, _, rfl, d, _, rfl, SqT.of hd, (by show ¬ (5 = 0 ∧ 8 = 8); decide), fun p np => ?_⟩
  have s1 := same_upd (o := .tup (cutV (deskV ka kb m num den least step u) (some 5) none)) np
  refine ⟨_, _, rfl, SqT.of upd_same, rfl, _, _, rfl, _, _, rfl, _, _, rfl, rfl, ?_⟩
  refine ⟨_, rfl, _, rfl, _, _, rfl, rfl, _, rfl, ?_⟩
  have := o.s0
  by_cases hx : x ≥ least
  · refine iteP hx ⟨_, rfl, _, rfl, _, _, rfl, rfl, (by omega), rfl, _, rfl, ?_⟩
    by_cases hm : x % step = 0
    · refine iteP (show V.int (x.fmod step) = V.int 0 by rw [fmod_pos (by omega), hm]) ?_
      cases u with
      | none => exact ⟨_, rfl, rfl, _, rfl, iteP rfl (k _ _ s1 ⟨fun _ => ⟨hx, hm, fun v q => by cases q⟩, fun _ => rfl⟩)⟩
      | some v => exact ⟨_, rfl, rfl, _, rfl, iteN (fun q => by cases q) ⟨_, rfl, _, rfl, _, _, rfl, rfl, k _ _ s1 ⟨fun q => ⟨hx, hm, fun v' q' => by cases q'; exact of_decide_eq_true q⟩, fun q => decide_eq_true (q.2.2 v rfl)⟩⟩⟩
    · have ne : ¬ V.int (x.fmod step) = V.int 0 := fun q => hm (by rw [← fmod_pos (show 0 < step by omega)]; exact V.int.inj q)
      exact iteN ne (k _ _ s1 ⟨fun q => (nomatch q), fun q => absurd q.2.1 hm⟩)
  · exact iteN hx (k _ _ s1 ⟨fun q => (nomatch q), fun q => absurd q.1 hx⟩)
abbrev s_gives : Stmt := topS 10
abbrev N_gives : List Str := ["desk", "x", "num", "den", "how"]
theorem sc_gives : FnScope N_gives ["desk", "x"] (defScope s_gives) := ⟨rfl, rfl, rfl, by decide +kernel, rfl, by decide +kernel, by decide +kernel⟩
theorem ok_gives (T : Txt mg) (D : Df K mg "gives" s_gives ["desk", "x"]) (C_takes : Cal P w K mg base "takes" ["desk", "x"] 1 (sp_takes K)) : Cal P w K mg base "gives" ["desk", "x"] 2 (sp_gives K) := by
  obtain ⟨f_takes, fd_takes, G_takes, m_takes, k_takes, b_takes⟩ := C_takes
  refine D.cal sc_gives (fun vs H Q E h => ?_) (fun f cdv A outer s H vs Q E hr h => ?_)
  · obtain ⟨d, x, ka, kb, m, num, den, least, step, u, rfl, _⟩ := h
    rfl
  obtain ⟨d, x, ka, kb, m, num, den, least, step, u, rfl, hd, o, k⟩ := h
  refine ⟨_, (pss_cons (ps_if (pt_not (pt_val (pe_call G_takes (hr.mono (by decide)) (by rfl) m_takes k_takes b_takes .nil pass0 (pa_cons (pv 0) (pa_cons (pv 1) pa_nil))))) (pss_one (ps_ret pe_non)) pss_nil)
    (pss_cons (ps_asg (pe_slice sl_tup (pv 0) (po_some pe_int) (po_some pe_int)) (pg_tup (by rfl) (pgs_cons (pg_name (i := 2) sc_gives.nd rfl (Or.inl rfl)) (pgs_cons (pg_name (i := 3) sc_gives.nd rfl (Or.inl rfl)) (pgs_cons (pg_name (i := 4) sc_gives.nd rfl (Or.inl rfl)) pgs_nil)))))
    (pss_cons (ps_if (pt_cmpR op_eq (pv 4) pe_str (nomark _)) (pss_one (ps_ret (pe_op op_fdivW (pe_op op_mul (pv 2) (pv 1)) (pv 3)))) pss_nil)
    (pss_cons (ps_if (pt_cmpR op_eq (pv 4) pe_str (nomark _)) (pss_one (ps_ret (pe_op op_fdivW (pe_op op_sub (pe_op op_add (pe_op op_mul (pv 2) (pv 1)) (pv 3)) pe_int) (pv 3)))) pss_nil)
    (pss_one (ps_ret (pe_op op_fdivW (pe_op op_add (pe_op op_mul (pe_op op_mul pe_int (pv 2)) (pv 1)) (pv 3)) (pe_op op_mul pe_int (pv 3))))))))), ?_⟩
  have n0 := o.n0
  have n1 := o.n1
  have d0 := o.d0
  have d1 := o.d1
  refine ⟨_, rfl, _, rfl, d, x, ka, kb, m, num, den, least, step, u, rfl, hd, o, fun H1 b s1 hb => ⟨_, rfl, ?_⟩⟩
  have hd1 := s1 _ _ hd
  cases b with
  | false => exact iteT ((k H1 s1).2 fun q => by have := hb.mpr q; cases this)
  | true =>
  have tk := hb.mp rfl
  refine iteF ?_
  refine ⟨_, rfl, _, rfl, _, rfl, d, _, rfl, SqT.of hd1, (by show ¬ (2 = 0 ∧ 5 = 8); decide), fun p np => ?_⟩
  have s2 := s1.trans (same_upd (o := .tup (cutV (deskV ka kb m num den least step u) (some 2) (some 5))) np)
  refine ⟨_, _, rfl, SqT.of upd_same, rfl, _, _, rfl, _, _, rfl, _, _, rfl, rfl, ?_⟩
  refine ⟨_, rfl, rfl, _, rfl, ?_⟩
  refine ite3 (fun e => ?_) (fun e => ?_)
  · refine ⟨_, rfl, _, rfl, _, _, rfl, rfl, .inl ⟨by omega, by omega⟩, _, rfl, _, _, rfl, rfl, o.div, ?_⟩
    have e := (hs_down o.hm).mp e
    subst e
    exact (k _ s2).1 tk
  have e : ¬ m = 0 := fun q => e ((hs_down o.hm).mpr q)
  refine ⟨_, rfl, rfl, _, rfl, ?_⟩
  refine ite3 (fun e1 => ?_) (fun e1 => ?_)
  · refine ⟨_, rfl, _, rfl, _, _, rfl, rfl, .inl ⟨by omega, by omega⟩, _, rfl, _, _, rfl, rfl, _, _, rfl, rfl, _, rfl, _, _, rfl, rfl, o.div, ?_⟩
    have e1 := (hs_up o.hm).mp e1
    subst e1
    exact (k _ s2).1 tk
  have e1 : ¬ m = 1 := fun q => e1 ((hs_up o.hm).mpr q)
  refine ⟨_, rfl, _, _, rfl, rfl, .inl ⟨by omega, by omega⟩, _, rfl, _, _, rfl, rfl, .inl ⟨by omega, by omega⟩, _, rfl, _, _, rfl, rfl, _, rfl, _, _, rfl, rfl, .inl ⟨by omega, by omega⟩, _, _, rfl, rfl, o.div2, ?_⟩
  have e2 : m = 2 := by have := o.hm; omega
  subst e2
  have e3 : (2 * num * x + den) / (2 * den) = Gm 2 (num * x) den := by rw [g_ne, Int.mul_assoc]
  have k := (k _ s2).1 tk
  rw [← e3] at k
  exact k
abbrev s_l_gives : Stmt := topS 16
abbrev N_l_gives : List Str := ["_law_desk", "_law_x", "_law_a", "_law_b", "_law_num", "_law_den", "_law_how", "_law_least", "_law_step", "_law_upto", "_law_whole", "_law_rest"]
theorem sc_l_gives : FnScope N_l_gives ["_law_desk", "_law_x"] (defScope s_l_gives) := ⟨rfl, rfl, rfl, by decide +kernel, rfl, by decide +kernel, by decide +kernel⟩
theorem ok_l_gives (T : Txt mg) (D : Df K mg "_law_gives" s_l_gives ["_law_desk", "_law_x"]) : Cal P w K mg base "_law_gives" ["_law_desk", "_law_x"] 1 (sp_l_gives K) := by
  refine D.cal sc_l_gives (fun vs H Q E h => ?_) (fun f cdv A outer s H vs Q E hr h => ?_)
  · obtain ⟨d, x, ka, kb, m, num, den, least, step, u, rfl, _⟩ := h
    rfl
  obtain ⟨d, x, ka, kb, m, num, den, least, step, u, rfl, hd, o, k1, k2⟩ := h
  refine ⟨_, (pss_cons (ps_asg (pv 0) (pg_tup (by rfl) (pgs_cons (pg_name (i := 2) sc_l_gives.nd rfl (Or.inl rfl)) (pgs_cons (pg_name (i := 3) sc_l_gives.nd rfl (Or.inl rfl)) (pgs_cons (pg_name (i := 4) sc_l_gives.nd rfl (Or.inl rfl)) (pgs_cons (pg_name (i := 5) sc_l_gives.nd rfl (Or.inl rfl)) (pgs_cons (pg_name (i := 6) sc_l_gives.nd rfl (Or.inl rfl)) (pgs_cons (pg_name (i := 7) sc_l_gives.nd rfl (Or.inl rfl)) (pgs_cons (pg_name (i := 8) sc_l_gives.nd rfl (Or.inl rfl)) (pgs_cons (pg_name (i := 9) sc_l_gives.nd rfl (Or.inl rfl)) pgs_nil))))))))))
    (pss_cons (ps_if (PW.pt (pw_or (pt_cmpR op_ne (pe_op op_modN (pe_callTy call_int1 (by rfl) T.n_int (by decide +kernel) (pa_cons (pv 1) pa_nil)) (pv 8)) pe_int (nomark _)) (pw_or (pt_cmpR op_lt (pv 1) (pv 7) (nomark _)) (pw_or1 (PW.pt (pw_and (pt_cmpR op_notN (pv 9) pe_non (nomark _)) (pw_and1 (pt_cmpR op_gt (pv 1) (pv 9) (nomark _))))))))) (pss_one (ps_ret pe_non)) pss_nil)
    (pss_cons (ps_par (i := 10) (j := 11) (by rfl) sc_l_gives.nd rfl rfl (by decide) rfl rfl (pa_cons (pe_op op_fdivW (pe_op op_mul (pv 4) (pv 1)) (pv 5)) (pa_cons (pe_op op_modN (pe_callTy call_int1 (by rfl) T.n_int (by decide +kernel) (pa_cons (pe_op op_mul (pv 4) (pv 1)) pa_nil)) (pv 5)) pa_nil)) (by rfl))
    (pss_cons (ps_if (pt_cmpR op_eq (pv 6) pe_str (nomark _)) (pss_one (ps_ret (pv 10))) pss_nil)
    (pss_one (ps_ret (pe_ifExp (pt_cmpR op_eq (pv 6) pe_str (nomark _)) (pe_op op_add (pv 10) (pe_callTy call_int1 (by rfl) T.n_int (by decide +kernel) (pa_cons (pe_cmpR op_gt (pv 11) pe_int (nomark _)) pa_nil))) (pe_op op_add (pv 10) (pe_callTy call_int1 (by rfl) T.n_int (by decide +kernel) (pa_cons (pe_cmpR op_ge (pe_op op_mul pe_int (pv 11)) (pv 5) (nomark _)) pa_nil)))))))))), ?_⟩
  have n0 := o.n0
  have n1 := o.n1
  have d0 := o.d0
  have d1 := o.d1
  have st0 := o.s0
  refine ⟨_, rfl, _, _, rfl, SqT.of hd, rfl, _, _, rfl, _, _, rfl, _, _, rfl, _, _, rfl, _, _, rfl, _, _, rfl, _, _, rfl, _, _, rfl, rfl, ?_⟩
  refine ⟨_, rfl, .inl ⟨_, rfl, _, rfl, _, _, rfl, rfl, (by omega), rfl, _, rfl, ?_⟩⟩
  by_cases hm : x % step = 0
  case neg =>
    exact iteNN (show ¬ V.int (x.fmod step) = V.int 0 from fun q => hm (by rw [← fmod_pos (show 0 < step by omega)]; exact V.int.inj q)) (k2 fun q => hm q.2.1)
  refine iteNP (show V.int (x.fmod step) = V.int 0 by rw [fmod_pos (by omega), hm]) ?_
  refine ⟨_, rfl, _, rfl, _, _, rfl, rfl, _, rfl, ?_⟩
  by_cases hx : x < least
  · exact iteP hx (k2 fun q => by have := q.1; omega)
  refine iteN hx ?_
  cases u with
  | none =>
    have k := k1 ⟨by omega, hm, fun v q => nomatch q⟩
    refine ⟨_, rfl, rfl, _, rfl, iteNP rfl ?_⟩
    refine iteF ?_
    rw [LG_eq o.hm (by omega)] at k
    refine ⟨_, rfl, _, rfl, _, _, rfl, rfl, .inl ⟨by omega, by omega⟩, _, rfl, _, _, rfl, rfl, o.div, _, rfl, _, rfl, _, _, rfl, rfl, .inl ⟨by omega, by omega⟩, .inl ⟨_, rfl, _, rfl, _, _, rfl, rfl, (by omega), _, _, rfl, ?_⟩⟩
    have fm : (num * x).fmod den = num * x % den := fmod_pos (by omega)
    refine ⟨_, rfl, rfl, _, rfl, ?_⟩
    refine ite3 (fun e => ?_) (fun e => ?_)
    · have e := (hs_down o.hm).mp e
      subst e
      exact ⟨_, rfl, k⟩
    have e : ¬ m = 0 := fun q => e ((hs_down o.hm).mpr q)
    refine ⟨_, rfl, rfl, _, rfl, ?_⟩
    refine ite3 (fun e1 => ?_) (fun e1 => ?_)
    · have e1 := (hs_up o.hm).mp e1
      subst e1
      refine ⟨_, rfl, _, rfl, _, _, rfl, rfl, .inr ⟨_, rfl, _, _, rfl, rfl, ?_⟩⟩
      have e3 : num * x / den + (if decide (0 < (num * x).fmod den) = true then 1 else 0) = LG 1 (num * x) den := by
        rw [fm]
        show _ = num * x / den + (if 0 < num * x % den then 1 else 0)
        simp only [decide_eq_true_eq]
      rw [← e3] at k
      exact k
    have e1 : ¬ m = 1 := fun q => e1 ((hs_up o.hm).mpr q)
    have e2 : m = 2 := by have := o.hm; omega
    subst e2
    refine ⟨_, rfl, _, rfl, _, _, rfl, rfl, .inl ⟨by omega, by omega⟩, _, rfl, _, _, rfl, rfl, .inr ⟨_, rfl, _, _, rfl, rfl, ?_⟩⟩
    have e3 : num * x / den + (if decide (den ≤ 2 * (num * x).fmod den) = true then 1 else 0) = LG 2 (num * x) den := by
      rw [fm]
      show _ = num * x / den + (if den ≤ 2 * (num * x % den) then 1 else 0)
      simp only [decide_eq_true_eq]
    rw [← e3] at k
    exact k
  | some v =>
    refine ⟨_, rfl, rfl, _, rfl, iteNN (fun q => nomatch q) ⟨_, rfl, _, rfl, _, _, rfl, rfl, _, rfl, ?_⟩⟩
    by_cases hv : x > v
    · exact iteP hv (k2 fun q => by have := q.2.2 v rfl; omega)
    refine iteN hv ?_
    have k := k1 ⟨by omega, hm, fun v' q => by cases q; omega⟩
    rw [LG_eq o.hm (by omega)] at k
    refine ⟨_, rfl, _, rfl, _, _, rfl, rfl, .inl ⟨by omega, by omega⟩, _, rfl, _, _, rfl, rfl, o.div, _, rfl, _, rfl, _, _, rfl, rfl, .inl ⟨by omega, by omega⟩, .inl ⟨_, rfl, _, rfl, _, _, rfl, rfl, (by omega), _, _, rfl, ?_⟩⟩
    have fm : (num * x).fmod den = num * x % den := fmod_pos (by omega)
    refine ⟨_, rfl, rfl, _, rfl, ?_⟩
    refine ite3 (fun e => ?_) (fun e => ?_)
    · have e := (hs_down o.hm).mp e
      subst e
      exact ⟨_, rfl, k⟩
    have e : ¬ m = 0 := fun q => e ((hs_down o.hm).mpr q)
    refine ⟨_, rfl, rfl, _, rfl, ?_⟩
    refine ite3 (fun e1 => ?_) (fun e1 => ?_)
    · have e1 := (hs_up o.hm).mp e1
      subst e1
      refine ⟨_, rfl, _, rfl, _, _, rfl, rfl, .inr ⟨_, rfl, _, _, rfl, rfl, ?_⟩⟩
      have e3 : num * x / den + (if decide (0 < (num * x).fmod den) = true then 1 else 0) = LG 1 (num * x) den := by
        rw [fm]
        show _ = num * x / den + (if 0 < num * x % den then 1 else 0)
        simp only [decide_eq_true_eq]
      rw [← e3] at k
      exact k
    have e1 : ¬ m = 1 := fun q => e1 ((hs_up o.hm).mpr q)
    have e2 : m = 2 := by have := o.hm; omega
    subst e2
    refine ⟨_, rfl, _, rfl, _, _, rfl, rfl, .inl ⟨by omega, by omega⟩, _, rfl, _, _, rfl, rfl, .inr ⟨_, rfl, _, _, rfl, rfl, ?_⟩⟩
    have e3 : num * x / den + (if decide (den ≤ 2 * (num * x).fmod den) = true then 1 else 0) = LG 2 (num * x) den := by
      rw [fm]
      show _ = num * x / den + (if den ≤ 2 * (num * x % den) then 1 else 0)
      simp only [decide_eq_true_eq]
    rw [← e3] at k
    exact k
end
end Sm

set_option Elab.async false
set_option linter.all false
set_option maxRecDepth 100000
set_option maxHeartbeats 16000000
namespace Sm
open PySem PySem.Spec PyProof.Rows L2
open C8 (pss_cut tCut)
def eqI : PyData → PyData → Bool
  | .int i, .int j => decide (i = j)
  | _, _ => false
def valI : PyData → Int
  | .int i => i
  | _ => 0
def okH : PyData → Bool
  | .str x => inV (.str x) [.str "down", .str "up", .str "near"]
  | _ => false
def isN : PyData → Bool
  | .none => true
  | _ => false
def err8 (a b n d h l s m : PyData) : Option Str := if inI a 0 3 = false then some "from" else if inI b 0 3 = false ∨ eqI a b = true then some "to" else if inI n 0 30 = false then some "num" else if inI d 1 30 = false then some "den" else if okH h = false then some "how"
    else if inI l 1 30 = false then some "least" else if inI s 1 30 = false then some "step" else if isN m = true ∨ inI m (valI l) 1000 = true then none else some "most"
/-- the first item that is wrong -/
def errD : PyData → Option Str
  | .tuple [a, b, n, d, h, l, s, m] => err8 a b n d h l s m
  | _ => some "desk"
theorem err_len {ds : List PyData} (h : ds.length ≠ 8) : errD (.tuple ds) = some "desk" := by
  unfold errD
  split
  · rename_i e
    cases e
    exact absurd rfl h
  · rfl
theorem dq_len {K : PySem.W.Frag} {H : Hp} : ∀ {xs : List V} {ds : List PyData}, DqAll K H xs ds → xs.length = ds.length
  | _, _, .nil => rfl
  | _, _, .cons _ h => by rw [List.length_cons, List.length_cons, dq_len h]
theorem dq_8 {K : PySem.W.Frag} {H : Hp} {xs : List V} {ds : List PyData} (h : DqAll K H xs ds) (l : xs.length = 8) : ∃ x1 x2 x3 x4 x5 x6 x7 x8 a b n d t l s m, xs = [x1, x2, x3, x4, x5, x6, x7, x8] ∧ ds = [a, b, n, d, t, l, s, m] ∧ Dq K H x1 a ∧ Dq K H x2 b ∧ Dq K H x3 n ∧ Dq K H x4 d ∧ Dq K H x5 t ∧ Dq K H x6 l ∧ Dq K H x7 s ∧ Dq K H x8 m := by
  obtain ⟨x1, x2, x3, x4, x5, x6, x7, x8, rfl⟩ : ∃ x1 x2 x3 x4 x5 x6 x7 x8, xs = [x1, x2, x3, x4, x5, x6, x7, x8] := by
    match xs, l with
    | [x1, x2, x3, x4, x5, x6, x7, x8], _ => exact ⟨_, _, _, _, _, _, _, _, rfl⟩
  cases h with | cons h1 h => cases h with | cons h2 h => cases h with | cons h3 h => cases h with | cons h4 h => cases h with | cons h5 h => cases h with | cons h6 h => cases h with | cons h7 h => cases h with | cons h8 h => cases h with | nil => exact ⟨_, _, _, _, _, _, _, _, _, _, _, _, _, _, _, _, rfl, rfl, h1, h2, h3, h4, h5, h6, h7, h8⟩
theorem of_tuple (d : PyData) : isOf "tuple" d = (match d with | .tuple _ => true | _ => false) := by
  cases d <;> simp [isOf, isT, tyN]
theorem of_str (d : PyData) : isOf "str" d = (match d with | .str _ => true | _ => false) := by
  cases d <;> simp [isOf, isT, tyN]
theorem non_iff {K : PySem.W.Frag} {H : Hp} {v : V} {d : PyData} (h : Dq K H v d) : decide (v = .non) = isN d := by
  cases h <;> simp [isN]
def errV : Option Str → V
  | none => .non
  | some s => .str s
def sp_desk_error (K : PySem.W.Frag) : Sp := fun vs H Q _ => ∃ (v : V) (d : PyData), vs = [v] ∧ Dq K H v d ∧ ∀ H', Same H H' → Q (errV (errD d)) H'
abbrev sp_l_error := sp_desk_error
section
variable {P : Program} {w : World} {K : PySem.W.Frag} {mg : Str → Option Value} {base : Heap}
abbrev s_desk_error : Stmt := topS 8
abbrev N_desk_error : List Str := ["value", "a", "b", "num", "den", "how", "least", "step", "most"]
theorem sc_desk_error : FnScope N_desk_error ["value"] (defScope s_desk_error) := ⟨rfl, rfl, rfl, by decide +kernel, rfl, by decide +kernel, by decide +kernel⟩
theorem ok_desk_error (T : Txt mg) (D : Df K mg "desk_error" s_desk_error ["value"]) (C_is_within : Cal P w K mg base "is_within" ["value", "low", "high"] 2 (sp_is_within K)) : Cal P w K mg base "desk_error" ["value"] 3 (sp_desk_error K) := by
  obtain ⟨f_is_within, fd_is_within, G_is_within, m_is_within, k_is_within, b_is_within⟩ := C_is_within
  refine D.cal sc_desk_error (fun vs H Q E h => ?_) (fun f cdv A outer s H vs Q E hr h => ?_)
  · obtain ⟨v, d, rfl, _⟩ := h
    rfl
  obtain ⟨v, d, rfl, hd, k⟩ := h
  obtain ⟨_, hMAX_KINDS⟩ := T.c_MAX_KINDS
  obtain ⟨_, hMAX_RATE⟩ := T.c_MAX_RATE
  obtain ⟨_, hMAX_AMOUNT⟩ := T.c_MAX_AMOUNT
  obtain ⟨_, hMAX_MOST⟩ := T.c_MAX_MOST
  refine ⟨_, (pss_cons (ps_if (PW.pt (pw_or (pt_not (pt_val (pe_callB call_isQ (by rfl) T.n_isinstance (by decide +kernel) (pa_cons (pv 0) (pa_cons (pe_bltn (v := .ty "tuple") (by rfl) T.n_tuple (by decide +kernel) rfl) pa_nil))))) (pw_or1 (pt_cmpR op_ne (pe_callB call_len_seq (by rfl) T.n_len (by decide +kernel) (pa_cons (pv 0) pa_nil)) pe_int (nomark _))))) (pss_one (ps_ret pe_str)) pss_nil)
    (pss_cons (ps_asg (pv 0) (pg_tup (by rfl) (pgs_cons (pg_name (i := 1) sc_desk_error.nd rfl (Or.inl rfl)) (pgs_cons (pg_name (i := 2) sc_desk_error.nd rfl (Or.inl rfl)) (pgs_cons (pg_name (i := 3) sc_desk_error.nd rfl (Or.inl rfl)) (pgs_cons (pg_name (i := 4) sc_desk_error.nd rfl (Or.inl rfl)) (pgs_cons (pg_name (i := 5) sc_desk_error.nd rfl (Or.inl rfl)) (pgs_cons (pg_name (i := 6) sc_desk_error.nd rfl (Or.inl rfl)) (pgs_cons (pg_name (i := 7) sc_desk_error.nd rfl (Or.inl rfl)) (pgs_cons (pg_name (i := 8) sc_desk_error.nd rfl (Or.inl rfl)) pgs_nil))))))))))
    (pss_cons (ps_if (pt_not (pt_val (pe_call G_is_within (hr.mono (by decide)) (by rfl) m_is_within k_is_within b_is_within .nil pass0 (pa_cons (pv 1) (pa_cons pe_int (pa_cons (pe_op op_sub (pe_glob (v := .int 4) rfl hMAX_KINDS ⟨_, rfl⟩) pe_int) pa_nil)))))) (pss_one (ps_ret pe_str)) pss_nil)
    (pss_cons (ps_if (PW.pt (pw_or (pt_not (pt_val (pe_call G_is_within (hr.mono (by decide)) (by rfl) m_is_within k_is_within b_is_within .nil pass0 (pa_cons (pv 2) (pa_cons pe_int (pa_cons (pe_op op_sub (pe_glob (v := .int 4) rfl hMAX_KINDS ⟨_, rfl⟩) pe_int) pa_nil)))))) (pw_or1 (pt_cmpR op_eq (pv 1) (pv 2) (nomark _))))) (pss_one (ps_ret pe_str)) pss_nil)
    (pss_cons (ps_if (pt_not (pt_val (pe_call G_is_within (hr.mono (by decide)) (by rfl) m_is_within k_is_within b_is_within .nil pass0 (pa_cons (pv 3) (pa_cons pe_int (pa_cons (pe_glob (v := .int 30) rfl hMAX_RATE ⟨_, rfl⟩) pa_nil)))))) (pss_one (ps_ret pe_str)) pss_nil)
    (pss_cons (ps_if (pt_not (pt_val (pe_call G_is_within (hr.mono (by decide)) (by rfl) m_is_within k_is_within b_is_within .nil pass0 (pa_cons (pv 4) (pa_cons pe_int (pa_cons (pe_glob (v := .int 30) rfl hMAX_RATE ⟨_, rfl⟩) pa_nil)))))) (pss_one (ps_ret pe_str)) pss_nil)
    (pss_cons (ps_if (PW.pt (pw_or (pt_not (pt_val (pe_callB call_isQ (by rfl) T.n_isinstance (by decide +kernel) (pa_cons (pv 5) (pa_cons (pe_bltn (v := .ty "str") (by rfl) T.n_str (by decide +kernel) rfl) pa_nil))))) (pw_or1 (pt_cmpR op_notIn_seq (pv 5) (pe_tup (pa_cons pe_str (pa_cons pe_str (pa_cons pe_str pa_nil)))) (by rfl))))) (pss_one (ps_ret pe_str)) pss_nil)
    (pss_cons (ps_if (pt_not (pt_val (pe_call G_is_within (hr.mono (by decide)) (by rfl) m_is_within k_is_within b_is_within .nil pass0 (pa_cons (pv 6) (pa_cons pe_int (pa_cons (pe_glob (v := .int 30) rfl hMAX_AMOUNT ⟨_, rfl⟩) pa_nil)))))) (pss_one (ps_ret pe_str)) pss_nil)
    (pss_cons (ps_if (pt_not (pt_val (pe_call G_is_within (hr.mono (by decide)) (by rfl) m_is_within k_is_within b_is_within .nil pass0 (pa_cons (pv 7) (pa_cons pe_int (pa_cons (pe_glob (v := .int 30) rfl hMAX_AMOUNT ⟨_, rfl⟩) pa_nil)))))) (pss_one (ps_ret pe_str)) pss_nil)
    (pss_cons (ps_if (PW.pt (pw_and (pt_cmpR op_notN (pv 8) pe_non (nomark _)) (pw_and1 (pt_not (pt_val (pe_call G_is_within (hr.mono (by decide)) (by rfl) m_is_within k_is_within b_is_within .nil pass0 (pa_cons (pv 8) (pa_cons (pv 6) (pa_cons (pe_glob (v := .int 1000) rfl hMAX_MOST ⟨_, rfl⟩) pa_nil))))))))) (pss_one (ps_ret pe_str)) pss_nil)
    (pss_one (ps_ret pe_non)))))))))))), ?_⟩
  refine ⟨_, rfl, v, d, "tuple", rfl, hd, .inr (.inr (.inr (.inl rfl))), _, rfl, ?_⟩
  rw [of_tuple]
  have k0 := k H (Same.refl H)
  cases hd with
  | int i => exact iteT (iteT k0)
  | non => exact iteT (iteT k0)
  | bl b => exact iteT (iteT k0)
  | str x => exact iteT (iteT k0)
  | lst e1 e2 e3 => exact iteT (iteT k0)
  | dic kvs e1 => exact iteT (iteT k0)
  | tup e1 e2 =>
  rename_i tp xs ds
  refine iteF ⟨_, rfl, tp, xs, rfl, .inr (SqT.of e1), rfl, _, rfl, ?_⟩
  by_cases hl : xs.length = 8
  case neg =>
    rw [err_len (by rw [← dq_len e2]; exact hl)] at k0
    exact iteNN (fun q => hl (Int.ofNat.inj (V.int.inj q))) k0
  obtain ⟨x1, x2, x3, x4, x5, x6, x7, x8, a, b, n, d, t, l, s, m, rfl, rfl, h1, h2, h3, h4, h5, h6, h7, h8⟩ := dq_8 e2 hl
  have kd : Q (errV (err8 a b n d t l s m)) H := k0
  clear k0
  refine iteNP rfl ?_
  refine ⟨_, rfl, _, _, rfl, SqT.of e1, rfl, _, _, rfl, _, _, rfl, _, _, rfl, _, _, rfl, _, _, rfl, _, _, rfl, _, _, rfl, _, _, rfl, rfl, ?_⟩
  refine ⟨_, rfl, _, _, rfl, rfl, x1, a, 0, 3, rfl, h1, _, rfl, ?_⟩
  cases c1 : inI a 0 3 with
  | false => exact iteT (by simp [err8, c1] at kd; exact kd)
  | true =>
  refine iteF ?_
  obtain ⟨ia, rfl⟩ : ∃ i, a = .int i := by
    cases a with
    | int i => exact ⟨i, rfl⟩
    | _ => cases c1
  cases h1
  refine ⟨_, rfl, _, _, rfl, rfl, x2, b, 0, 3, rfl, h2, _, rfl, ?_⟩
  cases c2 : inI b 0 3 with
  | false => exact iteT (iteT (by simp [err8, c1, c2] at kd; exact kd))
  | true =>
  refine iteF ?_
  obtain ⟨ib, rfl⟩ : ∃ i, b = .int i := by
    cases b with
    | int i => exact ⟨i, rfl⟩
    | _ => cases c2
  cases h2
  refine ⟨_, rfl, _, rfl, rfl, _, rfl, ?_⟩
  by_cases c3 : ia = ib
  · refine iteP (congrArg V.int c3) ?_
    simp [err8, c1, c2, eqI, c3] at kd
    exact kd
  refine iteN (fun q => c3 (V.int.inj q)) ?_
  have c4 : eqI (.int ia) (.int ib) = false := decide_eq_false c3
  have c5 : inI n 0 30 = inI n 0 30 := rfl
  refine ⟨_, rfl, x3, n, 0, 30, rfl, h3, _, rfl, ?_⟩
  cases c5 : inI n 0 30 with
  | false => exact iteT (by simp [err8, c1, c2, c4, c5] at kd; exact kd)
  | true =>
  refine iteF ⟨_, rfl, x4, d, 1, 30, rfl, h4, _, rfl, ?_⟩
  cases c6 : inI d 1 30 with
  | false => exact iteT (by simp [err8, c1, c2, c4, c5, c6] at kd; exact kd)
  | true =>
  refine iteF ⟨_, rfl, x5, t, "str", rfl, h5, .inr (.inr (.inl rfl)), _, rfl, ?_⟩
  rw [of_str]
  cases c7 : okH t with
  | false =>
    simp [err8, c1, c2, c4, c5, c6, c7] at kd
    cases h5 with
    | int i => exact iteT (iteT kd)
    | non => exact iteT (iteT kd)
    | bl b => exact iteT (iteT kd)
    | lst e1 e2 e3 => exact iteT (iteT kd)
    | dic kvs e1 => exact iteT (iteT kd)
    | tup e1 e2 => exact iteT (iteT kd)
    | str x =>
      refine iteF ⟨_, rfl, (by show 3 ≤ sizeLine; decide), fun hq nhq => ⟨hq, _, rfl, .inr (SqT.of upd_same), rfl, by decide +kernel, _, rfl, ?_⟩⟩
      rw [show inV (.str x) [.str "down", .str "up", .str "near"] = false from c7]
      refine iteT ?_
      have kd := k _ (same_upd (o := .tup [.str "down", .str "up", .str "near"]) nhq)
      exact (by simp [errD, err8, c1, c2, c4, c5, c6, c7] at kd; exact kd)
  | true =>
  obtain ⟨xs, rfl⟩ : ∃ y, t = .str y := by
    cases t with
    | str y => exact ⟨y, rfl⟩
    | _ => cases c7
  cases h5
  refine iteF ⟨_, rfl, (by show 3 ≤ sizeLine; decide), fun hq nhq => ⟨hq, _, rfl, .inr (SqT.of upd_same), rfl, by decide +kernel, _, rfl, ?_⟩⟩
  rw [show inV (.str xs) [.str "down", .str "up", .str "near"] = true from c7]
  clear kd
  have kd := k _ (same_upd (o := .tup [.str "down", .str "up", .str "near"]) nhq)
  clear k
  refine iteF ?_
  have hq6 := h6.same (same_upd (o := .tup [.str "down", .str "up", .str "near"]) nhq)
  have hq7 := h7.same (same_upd (o := .tup [.str "down", .str "up", .str "near"]) nhq)
  have hq8 := h8.same (same_upd (o := .tup [.str "down", .str "up", .str "near"]) nhq)
  generalize upd H hq (.tup [.str "down", .str "up", .str "near"]) = H1 at kd hq6 hq7 hq8 ⊢
  have kd1 : Q (errV (err8 (.int ia) (.int ib) n d (.str xs) l s m)) H1 := kd
  clear kd
  have kd := kd1
  clear kd1
  refine ⟨_, rfl, x6, l, 1, 30, rfl, hq6, _, rfl, ?_⟩
  cases c8 : inI l 1 30 with
  | false => exact iteT (by simp [err8, c1, c2, c4, c5, c6, c7, c8] at kd; exact kd)
  | true =>
  refine iteF ?_
  obtain ⟨il, rfl⟩ : ∃ i, l = .int i := by
    cases l with
    | int i => exact ⟨i, rfl⟩
    | _ => cases c8
  cases hq6
  refine ⟨_, rfl, x7, s, 1, 30, rfl, hq7, _, rfl, ?_⟩
  cases c9 : inI s 1 30 with
  | false => exact iteT (by simp [err8, c1, c2, c4, c5, c6, c7, c8, c9] at kd; exact kd)
  | true =>
  refine iteF ⟨_, rfl, rfl, _, rfl, ?_⟩
  rw [non_iff hq8]
  cases c10 : isN m with
  | true => exact iteF (iteF (by simp [err8, c1, c2, c4, c5, c6, c7, c8, c9, c10] at kd; exact kd))
  | false =>
  refine iteT ⟨_, rfl, _, rfl, x8, m, il, 1000, rfl, hq8, _, rfl, ?_⟩
  cases c11 : inI m il 1000 with
  | false => exact iteT (by simp [err8, c1, c2, c4, c5, c6, c7, c8, c9, c10, valI, c11] at kd; exact kd)
  | true => exact iteF (by simp [err8, c1, c2, c4, c5, c6, c7, c8, c9, c10, valI, c11] at kd; exact kd)
abbrev s_l_error : Stmt := topS 19
abbrev N_l_error : List Str := ["_law_value"]
theorem sc_l_error : FnScope N_l_error ["_law_value"] (defScope s_l_error) := ⟨rfl, rfl, rfl, by decide +kernel, rfl, by decide +kernel, by decide +kernel⟩
theorem ok_l_error (T : Txt mg) (D : Df K mg "_law_error" s_l_error ["_law_value"]) (C_l_is_between : Cal P w K mg base "_law_is_between" ["_law_value", "_law_low", "_law_high"] 1 (sp_l_is_between K)) : Cal P w K mg base "_law_error" ["_law_value"] 2 (sp_l_error K) := by
  obtain ⟨f_l_is_between, fd_l_is_between, G_l_is_between, m_l_is_between, k_l_is_between, b_l_is_between⟩ := C_l_is_between
  refine D.cal sc_l_error (fun vs H Q E h => ?_) (fun f cdv A outer s H vs Q E hr h => ?_)
  · obtain ⟨v, d, rfl, _⟩ := h
    rfl
  obtain ⟨v, d, rfl, hd, k⟩ := h
  refine ⟨_, (pss_cons (ps_if (PW.pt (pw_or (pt_not (pt_val (pe_callB call_isQ (by rfl) T.n_isinstance (by decide +kernel) (pa_cons (pv 0) (pa_cons (pe_bltn (v := .ty "tuple") (by rfl) T.n_tuple (by decide +kernel) rfl) pa_nil))))) (pw_or1 (pt_cmpR op_ne (pe_callB call_len_seq (by rfl) T.n_len (by decide +kernel) (pa_cons (pv 0) pa_nil)) pe_int (nomark _))))) (pss_one (ps_ret pe_str)) pss_nil)
    (pss_cons (ps_if (pt_not (pt_val (pe_call G_l_is_between (hr.mono (by decide)) (by rfl) m_l_is_between k_l_is_between b_l_is_between .nil pass0 (pa_cons (pe_ix ix_tup (pv 0) pe_int (fun _ _ => rfl)) (pa_cons pe_int (pa_cons pe_int pa_nil)))))) (pss_one (ps_ret pe_str)) pss_nil)
    (pss_cons (ps_if (PW.pt (pw_or (pt_not (pt_val (pe_call G_l_is_between (hr.mono (by decide)) (by rfl) m_l_is_between k_l_is_between b_l_is_between .nil pass0 (pa_cons (pe_ix ix_tup (pv 0) pe_int (fun _ _ => rfl)) (pa_cons pe_int (pa_cons pe_int pa_nil)))))) (pw_or1 (pt_cmpR op_eq (pe_ix ix_tup (pv 0) pe_int (fun _ _ => rfl)) (pe_ix ix_tup (pv 0) pe_int (fun _ _ => rfl)) (nomark _))))) (pss_one (ps_ret pe_str)) pss_nil)
    (pss_cons (ps_if (pt_not (pt_val (pe_call G_l_is_between (hr.mono (by decide)) (by rfl) m_l_is_between k_l_is_between b_l_is_between .nil pass0 (pa_cons (pe_ix ix_tup (pv 0) pe_int (fun _ _ => rfl)) (pa_cons pe_int (pa_cons pe_int pa_nil)))))) (pss_one (ps_ret pe_str)) pss_nil)
    (pss_cons (ps_if (pt_not (pt_val (pe_call G_l_is_between (hr.mono (by decide)) (by rfl) m_l_is_between k_l_is_between b_l_is_between .nil pass0 (pa_cons (pe_ix ix_tup (pv 0) pe_int (fun _ _ => rfl)) (pa_cons pe_int (pa_cons pe_int pa_nil)))))) (pss_one (ps_ret pe_str)) pss_nil)
    (pss_cons (ps_if (PW.pt (pw_or (pt_not (pt_val (pe_callB call_isQ (by rfl) T.n_isinstance (by decide +kernel) (pa_cons (pe_ix ix_tup (pv 0) pe_int (fun _ _ => rfl)) (pa_cons (pe_bltn (v := .ty "str") (by rfl) T.n_str (by decide +kernel) rfl) pa_nil))))) (pw_or1 (pt_cmpR op_notIn_seq (pe_ix ix_tup (pv 0) pe_int (fun _ _ => rfl)) (pe_tup (pa_cons pe_str (pa_cons pe_str (pa_cons pe_str pa_nil)))) (by rfl))))) (pss_one (ps_ret pe_str)) pss_nil)
    (pss_cons (ps_if (pt_not (pt_val (pe_call G_l_is_between (hr.mono (by decide)) (by rfl) m_l_is_between k_l_is_between b_l_is_between .nil pass0 (pa_cons (pe_ix ix_tup (pv 0) pe_int (fun _ _ => rfl)) (pa_cons pe_int (pa_cons pe_int pa_nil)))))) (pss_one (ps_ret pe_str)) pss_nil)
    (pss_cons (ps_if (pt_not (pt_val (pe_call G_l_is_between (hr.mono (by decide)) (by rfl) m_l_is_between k_l_is_between b_l_is_between .nil pass0 (pa_cons (pe_ix ix_tup (pv 0) pe_int (fun _ _ => rfl)) (pa_cons pe_int (pa_cons pe_int pa_nil)))))) (pss_one (ps_ret pe_str)) pss_nil)
    (pss_one (ps_ret (pe_ifExp (PW.pt (pw_or (pt_cmpR op_isN (pe_ix ix_tup (pv 0) pe_int (fun _ _ => rfl)) pe_non (nomark _)) (pw_or1 (pt_val (pe_call G_l_is_between (hr.mono (by decide)) (by rfl) m_l_is_between k_l_is_between b_l_is_between .nil pass0 (pa_cons (pe_ix ix_tup (pv 0) pe_int (fun _ _ => rfl)) (pa_cons (pe_ix ix_tup (pv 0) pe_int (fun _ _ => rfl)) (pa_cons pe_int pa_nil)))))))) pe_non pe_str))))))))))), ?_⟩
  refine ⟨_, rfl, v, d, "tuple", rfl, hd, .inr (.inr (.inr (.inl rfl))), _, rfl, ?_⟩
  rw [of_tuple]
  have k0 := k H (Same.refl H)
  cases hd with
  | int i => exact iteT (iteT k0)
  | non => exact iteT (iteT k0)
  | bl b => exact iteT (iteT k0)
  | str x => exact iteT (iteT k0)
  | lst e1 e2 e3 => exact iteT (iteT k0)
  | dic kvs e1 => exact iteT (iteT k0)
  | tup e1 e2 =>
  rename_i tp xs ds
  refine iteF ⟨_, rfl, tp, xs, rfl, .inr (SqT.of e1), rfl, _, rfl, ?_⟩
  by_cases hl : xs.length = 8
  case neg =>
    rw [err_len (by rw [← dq_len e2]; exact hl)] at k0
    exact iteNN (fun q => hl (Int.ofNat.inj (V.int.inj q))) k0
  obtain ⟨x1, x2, x3, x4, x5, x6, x7, x8, a, b, n, d, t, l, s, m, rfl, rfl, h1, h2, h3, h4, h5, h6, h7, h8⟩ := dq_8 e2 hl
  have kd : Q (errV (err8 a b n d t l s m)) H := k0
  clear k0
  refine iteNP rfl ?_
  refine ⟨_, rfl, _, _, _, _, rfl, rfl, SqT.of e1, atI_nat (j := 0) rfl, x1, a, 0, 3, rfl, h1, _, rfl, ?_⟩
  cases c1 : inI a 0 3 with
  | false => exact iteT (by simp [err8, c1] at kd; exact kd)
  | true =>
  refine iteF ?_
  obtain ⟨ia, rfl⟩ : ∃ i, a = .int i := by
    cases a with
    | int i => exact ⟨i, rfl⟩
    | _ => cases c1
  cases h1
  refine ⟨_, rfl, _, _, _, _, rfl, rfl, SqT.of e1, atI_nat (j := 1) rfl, x2, b, 0, 3, rfl, h2, _, rfl, ?_⟩
  cases c2 : inI b 0 3 with
  | false => exact iteT (iteT (by simp [err8, c1, c2] at kd; exact kd))
  | true =>
  refine iteF ?_
  obtain ⟨ib, rfl⟩ : ∃ i, b = .int i := by
    cases b with
    | int i => exact ⟨i, rfl⟩
    | _ => cases c2
  cases h2
  refine ⟨_, rfl, _, _, _, _, rfl, rfl, SqT.of e1, atI_nat (j := 1) rfl, _, rfl, _, _, _, _, rfl, rfl, SqT.of e1, atI_nat (j := 0) rfl, rfl, _, rfl, ?_⟩
  by_cases c3 : ib = ia
  · refine iteP (congrArg V.int c3) ?_
    simp [err8, c1, c2, eqI, c3] at kd
    exact kd
  refine iteN (fun q => c3 (V.int.inj q)) ?_
  have c4 : eqI (.int ia) (.int ib) = false := decide_eq_false (fun q => c3 q.symm)
  have c5 : inI n 0 30 = inI n 0 30 := rfl
  refine ⟨_, rfl, _, _, _, _, rfl, rfl, SqT.of e1, atI_nat (j := 2) rfl, x3, n, 0, 30, rfl, h3, _, rfl, ?_⟩
  cases c5 : inI n 0 30 with
  | false => exact iteT (by simp [err8, c1, c2, c4, c5] at kd; exact kd)
  | true =>
  refine iteF ⟨_, rfl, _, _, _, _, rfl, rfl, SqT.of e1, atI_nat (j := 3) rfl, x4, d, 1, 30, rfl, h4, _, rfl, ?_⟩
  cases c6 : inI d 1 30 with
  | false => exact iteT (by simp [err8, c1, c2, c4, c5, c6] at kd; exact kd)
  | true =>
  refine iteF ⟨_, rfl, _, _, _, _, rfl, rfl, SqT.of e1, atI_nat (j := 4) rfl, x5, t, "str", rfl, h5, .inr (.inr (.inl rfl)), _, rfl, ?_⟩
  rw [of_str]
  cases c7 : okH t with
  | false =>
    simp [err8, c1, c2, c4, c5, c6, c7] at kd
    cases h5 with
    | int i => exact iteT (iteT kd)
    | non => exact iteT (iteT kd)
    | bl b => exact iteT (iteT kd)
    | lst e1 e2 e3 => exact iteT (iteT kd)
    | dic kvs e1 => exact iteT (iteT kd)
    | tup e1 e2 => exact iteT (iteT kd)
    | str x =>
      refine iteF ⟨_, rfl, _, _, _, _, rfl, rfl, SqT.of e1, atI_nat (j := 4) rfl, (by show 3 ≤ sizeLine; decide), fun hq nhq => ⟨hq, _, rfl, .inr (SqT.of upd_same), rfl, by decide +kernel, _, rfl, ?_⟩⟩
      rw [show inV (.str x) [.str "down", .str "up", .str "near"] = false from c7]
      refine iteT ?_
      have kd := k _ (same_upd (o := .tup [.str "down", .str "up", .str "near"]) nhq)
      exact (by simp [errD, err8, c1, c2, c4, c5, c6, c7] at kd; exact kd)
  | true =>
  obtain ⟨xs, rfl⟩ : ∃ y, t = .str y := by
    cases t with
    | str y => exact ⟨y, rfl⟩
    | _ => cases c7
  cases h5
  refine iteF ⟨_, rfl, _, _, _, _, rfl, rfl, SqT.of e1, atI_nat (j := 4) rfl, (by show 3 ≤ sizeLine; decide), fun hq nhq => ⟨hq, _, rfl, .inr (SqT.of upd_same), rfl, by decide +kernel, _, rfl, ?_⟩⟩
  rw [show inV (.str xs) [.str "down", .str "up", .str "near"] = true from c7]
  clear kd
  have kd := k _ (same_upd (o := .tup [.str "down", .str "up", .str "near"]) nhq)
  clear k
  refine iteF ?_
  have e9 := (same_upd (o := .tup [.str "down", .str "up", .str "near"]) nhq) _ _ e1
  have hq6 := h6.same (same_upd (o := .tup [.str "down", .str "up", .str "near"]) nhq)
  have hq7 := h7.same (same_upd (o := .tup [.str "down", .str "up", .str "near"]) nhq)
  have hq8 := h8.same (same_upd (o := .tup [.str "down", .str "up", .str "near"]) nhq)
  generalize upd H hq (.tup [.str "down", .str "up", .str "near"]) = H1 at kd hq6 hq7 hq8 e9 ⊢
  have kd1 : Q (errV (err8 (.int ia) (.int ib) n d (.str xs) l s m)) H1 := kd
  clear kd
  have kd := kd1
  clear kd1
  refine ⟨_, rfl, _, _, _, _, rfl, rfl, SqT.of e9, atI_nat (j := 5) rfl, x6, l, 1, 30, rfl, hq6, _, rfl, ?_⟩
  cases c8 : inI l 1 30 with
  | false => exact iteT (by simp [err8, c1, c2, c4, c5, c6, c7, c8] at kd; exact kd)
  | true =>
  refine iteF ?_
  obtain ⟨il, rfl⟩ : ∃ i, l = .int i := by
    cases l with
    | int i => exact ⟨i, rfl⟩
    | _ => cases c8
  cases hq6
  refine ⟨_, rfl, _, _, _, _, rfl, rfl, SqT.of e9, atI_nat (j := 6) rfl, x7, s, 1, 30, rfl, hq7, _, rfl, ?_⟩
  cases c9 : inI s 1 30 with
  | false => exact iteT (by simp [err8, c1, c2, c4, c5, c6, c7, c8, c9] at kd; exact kd)
  | true =>
  refine iteF ⟨_, rfl, _, _, _, _, rfl, rfl, SqT.of e9, atI_nat (j := 7) rfl, rfl, _, rfl, ?_⟩
  rw [non_iff hq8]
  cases c10 : isN m with
  | true => exact iteT (iteT (by simp [err8, c1, c2, c4, c5, c6, c7, c8, c9, c10] at kd; exact kd))
  | false =>
  refine iteF ⟨_, rfl, _, _, _, _, rfl, rfl, SqT.of e9, atI_nat (j := 7) rfl, _, rfl, _, _, _, _, rfl, rfl, SqT.of e9, atI_nat (j := 5) rfl, x8, m, il, 1000, rfl, hq8, _, rfl, ?_⟩
  cases c11 : inI m il 1000 with
  | false => exact iteF (by simp [err8, c1, c2, c4, c5, c6, c7, c8, c9, c10, valI, c11] at kd; exact kd)
  | true => exact iteT (by simp [err8, c1, c2, c4, c5, c6, c7, c8, c9, c10, valI, c11] at kd; exact kd)
end
end Sm

set_option Elab.async false
set_option linter.all false
set_option maxRecDepth 100000
set_option maxHeartbeats 16000000
namespace Sm
open PySem PySem.Spec PyProof.Rows L2
open C8 (pss_cut tCut)
/-- data that is soon shown -/
structure Sml (k n : Nat) (d : PyData) : Prop where
  sh : PyData.showable d = true
  dep : d.depth ≤ k
  len : d.shown.length ≤ n
/-- a value that stands on what is new since H -/
def DqN (K : PySem.W.Frag) (H H' : Hp) (x : V) (d : PyData) : Prop := ∀ H'' : Hp, (∀ b o, H b = none → H' b = some o → H'' b = some o) → Dq K H'' x d
theorem same_upd2 {H : Hp} {p : Addr} {o o' : HO} (h : H p = none) : Same H (upd (upd H p o) p o') := fun b x e => by
  rw [upd_ne (ne_of_none e h), upd_ne (ne_of_none e h)]
  exact e
def sp_l_odd (K : PySem.W.Frag) : Sp := fun vs H Q _ => ∃ (p l : Addr) (n : Int), vs = [.ref p] ∧ Deck H p l n ∧ 0 ≤ n ∧ n ≤ 900000 ∧
  ∀ H' x d, Fr p l H H' → Deck H' p l (n + 1) → DqN K H H' x d → Sml 3 300 d → Q x H'
section
variable {P : Program} {w : World} {K : PySem.W.Frag} {mg : Str → Option Value} {base : Heap}
abbrev s_l_odd : Stmt := topS 17
abbrev N_l_odd : List Str := ["_law_deck_here", "_law_some"]
theorem sc_l_odd : FnScope N_l_odd ["_law_deck_here"] (defScope s_l_odd) := ⟨rfl, rfl, rfl, by decide +kernel, rfl, by decide +kernel, by decide +kernel⟩
theorem ok_l_odd (T : Txt mg) (D : Df K mg "_law_odd" s_l_odd ["_law_deck_here"]) (C_l_one : Cal P w K mg base "_law_one" ["_law_deck_here", "_law_items"] 2 (sp_l_one K)) : Cal P w K mg base "_law_odd" ["_law_deck_here"] 3 (sp_l_odd K) := by
  obtain ⟨f_l_one, fd_l_one, G_l_one, m_l_one, k_l_one, b_l_one⟩ := C_l_one
  refine D.cal sc_l_odd (fun vs H Q E h => ?_) (fun f cdv A outer s H vs Q E hr h => ?_)
  · obtain ⟨p, l, n, rfl, _⟩ := h
    rfl
  obtain ⟨p, l, n, rfl, D, n0, n1, k⟩ := h
  refine ⟨_, (pss_cons (ps_set (i := 1) sc_l_odd.nd rfl (Or.inl rfl) (pe_lstN (pa_cons pe_non (pa_cons pe_bl (pa_cons pe_bl (pa_cons pe_int (pa_cons pe_int (pa_cons pe_int (pa_cons pe_int (pa_cons pe_int (pa_cons (pe_un un_neg pe_int) (pa_cons pe_int (pa_cons pe_int (pa_cons (pe_op op_pow pe_int pe_int) (pa_cons pe_str (pa_cons pe_str (pa_cons pe_str (pa_cons pe_str (pa_cons (pe_tup pa_nil) (pa_cons (pe_lstN pa_nil) (pa_cons pe_dnewK (pa_cons (pe_tup (pa_cons pe_str pa_nil)) pa_nil))))))))))))))))))))))
    (pss_one (ps_ret (pe_call G_l_one (hr.mono (by decide)) (by rfl) m_l_one k_l_one b_l_one .nil pass0 (pa_cons (pv 0) (pa_cons (pe_op op_cat (pv 1) (pe_lstN (pa_cons (pe_tup (pa_cons pe_str (pa_cons pe_str (pa_cons pe_str pa_nil)))) (pa_cons pe_str (pa_cons pe_int (pa_cons (pe_lstN (pa_cons pe_int pa_nil)) (pa_cons (pe_disp (pps_cons pe_str pe_int pps_nil) rfl rfl (fun z => nomatch z) (by decide)) pa_nil))))))) pa_nil)))))), ?_⟩
  refine ⟨_, rfl, _, _, rfl, rfl, ⟨by decide, by decide, by decide⟩, (by show 0 ≤ sizeLine; decide), fun a1 na1 => ⟨(by show 0 ≤ sizeLine; decide), fun a2 na2 ne2 => fun a3 na3 => ⟨(by show 1 ≤ sizeLine; decide), fun a4 na4 => ⟨(by show 20 ≤ sizeLine; decide), fun A nA neA => ?_⟩⟩⟩⟩
  have w1 := same_upd (o := .tup []) na1
  have w2 := same_upd (o := .lst []) na2
  have w3 := same_upd (o := .dK []) na3
  have w4 := same_upd (o := .tup [.str "up"]) na4
  have w5 := same_upd (o := .lst [.non, .bl true, .bl false, .int 0, .int 1, .int 4, .int 30, .int 31, .int (-1), .int 1000, .int 1001, .int (10 ^ Int.toNat 30), .str "", .str "down", .str "Up", .str "half", .ref a1, .ref a2, .ref a3, .ref a4]) nA
  refine ⟨_, rfl, _, rfl, (by show 3 ≤ sizeLine; decide), fun b1 nb1 => ⟨(by show 1 ≤ sizeLine; decide), fun b2 nb2 ne6 => fun b3 nb3 => ⟨upd_same, [(.inr "a", .int 0)], rfl, by decide, (by show 5 ≤ sizeLine; decide), fun B nB neB => ?_⟩⟩⟩
  have w6 := same_upd (o := .tup [.str "down", .str "up", .str "near"]) nb1
  have w7 := same_upd (o := .lst [.int 0]) nb2
  have w8 := same_upd2 (o := .dK []) (o' := .dK (mergeK [] [(.inr "a", .int 0)])) nb3
  have w9 := same_upd (o := .lst [.ref b1, .str "near ", .int 3, .ref b2, .ref b3]) nB
  have y8 := w8.trans w9
  have y7 := w7.trans y8
  have y6 := w6.trans y7
  have y5 := w5.trans y6
  have y4 := w4.trans y5
  have y3 := w3.trans y4
  have y2 := w2.trans y3
  have y1 := w1.trans y2
  refine ⟨A, B, _, _, rfl, rfl, y6 _ _ upd_same, upd_same, (by show 20 + 5 ≤ sizeLine; decide), fun C nC => ?_⟩
  have wC := same_upd (o := .lst ([.non, .bl true, .bl false, .int 0, .int 1, .int 4, .int 30, .int 31, .int (-1), .int 1000, .int 1001, .int (10 ^ Int.toNat 30), .str "", .str "down", .str "Up", .str "half", .ref a1, .ref a2, .ref a3, .ref a4] ++ [.ref b1, .str "near ", .int 3, .ref b2, .ref b3])) nC
  have yy := y1.trans wC
  have D1 := D.same yy
  have lne := (D.same y1).lne nC
  refine ⟨p, l, C, n, _, rfl, D1, n0, by omega, upd_same, lne.1, lne.2, (by show 0 < 20 + 5; decide), (by show 20 + 5 ≤ 1000; decide), fun x H' hx f D' => ?_⟩
  have c1 := (y2.trans wC) a1 (.tup []) upd_same
  have c2 := (y3.trans wC) a2 (.lst []) upd_same
  have c3 := (y4.trans wC) a3 (.dK []) upd_same
  have c4 := (y5.trans wC) a4 (.tup [.str "up"]) upd_same
  have c5 := (y7.trans wC) b1 (.tup [.str "down", .str "up", .str "near"]) upd_same
  have c6 := (y8.trans wC) b2 (.lst [.int 0]) upd_same
  have c7 := (w9.trans wC) b3 (.dK [(.inr "a", .int 0)]) upd_same
  have m1 : H a1 = none := na1
  have m2 : H a2 = none := w1.free na2
  have m3 : H a3 = none := (w1.trans w2).free na3
  have m4 : H a4 = none := (w1.trans (w2.trans w3)).free na4
  have m5 : H b1 = none := (w1.trans (w2.trans (w3.trans (w4.trans w5)))).free nb1
  have m6 : H b2 = none := (w1.trans (w2.trans (w3.trans (w4.trans (w5.trans w6))))).free nb2
  have m7 : H b3 = none := (w1.trans (w2.trans (w3.trans (w4.trans (w5.trans (w6.trans w7)))))).free nb3
  have d1 := f _ _ (D.lne m1).1 (D.lne m1).2 c1
  have d2 := f _ _ (D.lne m2).1 (D.lne m2).2 c2
  have d3 := f _ _ (D.lne m3).1 (D.lne m3).2 c3
  have d4 := f _ _ (D.lne m4).1 (D.lne m4).2 c4
  have d5 := f _ _ (D.lne m5).1 (D.lne m5).2 c5
  have d6 := f _ _ (D.lne m6).1 (D.lne m6).2 c6
  have d7 := f _ _ (D.lne m7).1 (D.lne m7).2 c7
  have k := fun x d => k H' x d ((Same.fr (p := p) (l := l) yy).trans f) D'
  clear c1 c2 c3 c4 c5 c6 c7 y1 y2 y3 y4 y5 y6 y7 y8 yy w1 w2 w3 w4 w5 w6 w7 w8 w9 wC f D' D1
  simp only [List.mem_append, List.mem_cons, List.not_mem_nil, or_false] at hx
  rcases hx with (rfl | rfl | rfl | rfl | rfl | rfl | rfl | rfl | rfl | rfl | rfl | rfl | rfl | rfl | rfl | rfl | rfl | rfl | rfl | rfl) | (rfl | rfl | rfl | rfl | rfl)
  · exact k _ _ (fun _ _ => .non) ⟨by decide +kernel, by decide +kernel, by decide +kernel⟩
  · exact k _ _ (fun _ _ => .bl _) ⟨by decide +kernel, by decide +kernel, by decide +kernel⟩
  · exact k _ _ (fun _ _ => .bl _) ⟨by decide +kernel, by decide +kernel, by decide +kernel⟩
  · exact k _ _ (fun _ _ => .int _) ⟨by decide +kernel, by decide +kernel, by decide +kernel⟩
  · exact k _ _ (fun _ _ => .int _) ⟨by decide +kernel, by decide +kernel, by decide +kernel⟩
  · exact k _ _ (fun _ _ => .int _) ⟨by decide +kernel, by decide +kernel, by decide +kernel⟩
  · exact k _ _ (fun _ _ => .int _) ⟨by decide +kernel, by decide +kernel, by decide +kernel⟩
  · exact k _ _ (fun _ _ => .int _) ⟨by decide +kernel, by decide +kernel, by decide +kernel⟩
  · exact k _ _ (fun _ _ => .int _) ⟨by decide +kernel, by decide +kernel, by decide +kernel⟩
  · exact k _ _ (fun _ _ => .int _) ⟨by decide +kernel, by decide +kernel, by decide +kernel⟩
  · exact k _ _ (fun _ _ => .int _) ⟨by decide +kernel, by decide +kernel, by decide +kernel⟩
  · exact k _ _ (fun _ _ => .int _) ⟨by decide +kernel, by decide +kernel, by decide +kernel⟩
  · exact k _ _ (fun _ _ => .str _) ⟨by decide +kernel, by decide +kernel, by decide +kernel⟩
  · exact k _ _ (fun _ _ => .str _) ⟨by decide +kernel, by decide +kernel, by decide +kernel⟩
  · exact k _ _ (fun _ _ => .str _) ⟨by decide +kernel, by decide +kernel, by decide +kernel⟩
  · exact k _ _ (fun _ _ => .str _) ⟨by decide +kernel, by decide +kernel, by decide +kernel⟩
  · exact k _ _ (fun H2 h => .tup (h _ _ m1 d1) .nil) ⟨by decide +kernel, by decide +kernel, by decide +kernel⟩
  · exact k _ _ (fun H2 h => .lst (h _ _ m2 d2) ne2 .nil) ⟨by decide +kernel, by decide +kernel, by decide +kernel⟩
  · exact k _ _ (fun H2 h => .dic [] (h _ _ m3 d3)) ⟨by decide +kernel, by decide +kernel, by decide +kernel⟩
  · exact k _ _ (fun H2 h => .tup (h _ _ m4 d4) (.cons (.str _) .nil)) ⟨by decide +kernel, by decide +kernel, by decide +kernel⟩
  · exact k _ _ (fun H2 h => .tup (h _ _ m5 d5) (.cons (.str _) (.cons (.str _) (.cons (.str _) .nil)))) ⟨by decide +kernel, by decide +kernel, by decide +kernel⟩
  · exact k _ _ (fun _ _ => .str _) ⟨by decide +kernel, by decide +kernel, by decide +kernel⟩
  · exact k _ _ (fun _ _ => .int _) ⟨by decide +kernel, by decide +kernel, by decide +kernel⟩
  · exact k _ _ (fun H2 h => .lst (h _ _ m6 d6) ne6 (.cons (.int _) .nil)) ⟨by decide +kernel, by decide +kernel, by decide +kernel⟩
  · exact k _ _ (fun H2 h => .dic [(.inr "a", 0)] (h _ _ m7 d7)) ⟨by decide +kernel, by decide +kernel, by decide +kernel⟩
end
end Sm

set_option Elab.async false
set_option linter.all false
set_option maxRecDepth 100000
set_option maxHeartbeats 16000000
namespace Sm
open PySem PySem.Spec PyProof.Rows L2
open C8 (pss_cut tCut)
section
variable {K : PySem.W.Frag} {H : Hp} {Q : VK}
theorem cat_uni {a b : Addr} {xs ys : List V} (ha : H a = some (.tup xs)) (hb : H b = some (.tup ys)) (l : xs.length + ys.length ≤ sizeLine) (q : ∀ u H', Same H H' → H' u = some (.tup (xs ++ ys)) → Q (.ref u) H') : rCatA K (.ref a) (.ref b) H Q := by
  refine ⟨a, b, xs, ys, rfl, rfl, SqT.of ha, SqT.of hb, l, fun e => q b H (Same.refl H) ?_, fun _ e => q a H (Same.refl H) ?_, fun _ _ u nu => q u _ (same_upd nu) upd_same⟩
  · rw [hb, e, List.nil_append]
  · rw [ha, e, List.append_nil]
theorem sl_uni {a : Addr} {xs : List V} {lo hi : Option Int} (h : H a = some (.tup xs)) (q : ∀ u H', Same H H' → H' u = some (.tup (cutV xs lo hi)) → Q (.ref u) H') : rSlA K (.ref a) lo hi H Q := by
  refine ⟨a, xs, rfl, SqT.of h, fun w => q a H (Same.refl H) ?_, fun _ u nu => q u _ (same_upd nu) upd_same⟩
  rw [h]
  unfold cutV
  rw [w.1, w.2, List.drop_zero, Nat.sub_zero, List.take_length]
end
theorem no_part {σ : L2.St} {H : Hp} {Q : Option Int → Hp → Prop} (h : Q none H) : tNoPart σ H Q := h
/-- a value that stands beside the row and the deck -/
def DqR (K : PySem.W.Frag) (R p l : Addr) (H : Hp) (x : V) (d : PyData) : Prop := ∀ H'' : Hp, (∀ b o, b ≠ R → b ≠ p → b ≠ l → H b = some o → H'' b = some o) → Dq K H'' x d
def Row (K : PySem.W.Frag) (R p l : Addr) (H : Hp) (xs : List V) : Prop := ∀ x ∈ xs, ∃ d, DqR K R p l H x d ∧ Sml 3 300 d
theorem Row.mono {K : PySem.W.Frag} {R p l : Addr} {H H' : Hp} {xs : List V} (h : Row K R p l H xs) (e : ∀ b o, b ≠ R → b ≠ p → b ≠ l → H b = some o → H' b = some o) : Row K R p l H' xs := fun x hx => by
  obtain ⟨d, h1, h2⟩ := h x hx
  exact ⟨d, fun H2 h => h1 H2 fun b o n1 n2 n3 q => h b o n1 n2 n3 (e b o n1 n2 n3 q), h2⟩
theorem Row.dq {K : PySem.W.Frag} {R p l : Addr} {H H' : Hp} (e : ∀ b o, b ≠ R → b ≠ p → b ≠ l → H b = some o → H' b = some o) : ∀ {xs : List V}, Row K R p l H xs → ∃ ds, DqAll K H' xs ds ∧ ds.length = xs.length ∧ ∀ d ∈ ds, Sml 3 300 d
  | [], _ => ⟨[], .nil, rfl, fun _ h => nomatch h⟩
  | x :: xs, h => by
    obtain ⟨ds, h1, h2, h3⟩ := Row.dq e (xs := xs) fun y hy => h y (List.mem_cons_of_mem _ hy)
    obtain ⟨d, g1, g2⟩ := h x List.mem_cons_self
    refine ⟨d :: ds, .cons (g1 _ e) h1, by rw [List.length_cons, List.length_cons, h2], fun y hy => ?_⟩
    rcases List.mem_cons.mp hy with rfl | q
    · exact g2
    · exact h3 y q
theorem sml_all : ∀ {ds : List PyData}, (∀ d ∈ ds, Sml 3 300 d) → PyData.showableAll ds = true ∧ PyData.depthAll ds ≤ 3 ∧ ((PyData.shownAll ds).map (·.length)).sum ≤ 300 * ds.length ∧ (PyData.shownAll ds).length = ds.length
  | [], _ => by simp [PyData.showableAll, PyData.depthAll, PyData.shownAll]
  | d :: ds, h => by
    obtain ⟨a1, a2, a3, a4⟩ := sml_all (ds := ds) fun y hy => h y (List.mem_cons_of_mem _ hy)
    obtain ⟨b1, b2, b3⟩ := h d List.mem_cons_self
    refine ⟨by simp only [PyData.showableAll, a1, b1, Bool.and_self], by simp only [PyData.depthAll]; omega, ?_, ?_⟩
    · simp only [PyData.shownAll, List.map_cons, List.sum_cons, List.length_cons]
      omega
    · simp only [PyData.shownAll, List.length_cons]
      omega
theorem sml_tup {ds : List PyData} (h : ∀ d ∈ ds, Sml 3 300 d) (l : ds.length ≤ 8) : Sml 9 9000 (.tuple ds) := by
  obtain ⟨a1, a2, a3, a4⟩ := sml_all h
  have t := tupleText_len_le (PyData.shownAll ds)
  refine ⟨by simp only [PyData.showable, a1], by simp only [PyData.depth]; omega, ?_⟩
  simp only [PyData.shown]
  omega
theorem sml_lst {ds : List PyData} (h : ∀ d ∈ ds, Sml 3 300 d) (l : ds.length ≤ 8) : Sml 9 9000 (.list ds) := by
  obtain ⟨a1, a2, a3, a4⟩ := sml_all h
  have t := listText_len_le (PyData.shownAll ds)
  refine ⟨by simp only [PyData.showable, a1], by simp only [PyData.depth]; omega, ?_⟩
  simp only [PyData.shown]
  omega
theorem sml_int {i : Int} (h0 : -5000 ≤ i) (h1 : i ≤ 5000) : Sml 3 300 (.int i) := by
  have z : i.natAbs.log2 < 60 := PySem.Flt.log2_lt_of (k := 60) (by decide) (by omega)
  refine ⟨?_, by simp [PyData.depth], ?_⟩
  · simp only [PyData.showable]
    exact decide_eq_true (by omega)
  · simp only [PyData.shown]
    rw [PySem.ofString_length]
    have := PySem.int_text_length_le (k := 60) (by decide) z
    omega
/-- the items of a right desk -/
theorem desk_item {K : PySem.W.Frag} {ka kb num den least step : Int} {m : Nat} {u : Option Int} (dk : Dk m num den least step u) (a0 : 0 ≤ ka) (a1 : ka ≤ 3) (b0 : 0 ≤ kb) (b1 : kb ≤ 3) : ∀ x ∈ deskV ka kb m num den least step u, ∃ d, (∀ H : Hp, Dq K H x d) ∧ Sml 3 300 d := by
  have := dk.n0
  have := dk.n1
  have := dk.d0
  have := dk.d1
  have := dk.l0
  have := dk.l1
  have := dk.s0
  have := dk.s1
  intro x hx
  simp only [List.mem_cons, List.not_mem_nil, or_false] at hx
  rcases hx with rfl | rfl | rfl | rfl | rfl | rfl | rfl | rfl
  · exact ⟨_, fun H => .int _, sml_int (by omega) (by omega)⟩
  · exact ⟨_, fun H => .int _, sml_int (by omega) (by omega)⟩
  · exact ⟨_, fun H => .int _, sml_int (by omega) (by omega)⟩
  · exact ⟨_, fun H => .int _, sml_int (by omega) (by omega)⟩
  · refine ⟨_, fun H => .str _, ?_⟩
    obtain rfl | rfl | rfl : m = 0 ∨ m = 1 ∨ m = 2 := by have := dk.hm; omega
    all_goals exact ⟨by decide +kernel, by decide +kernel, by decide +kernel⟩
  · exact ⟨_, fun H => .int _, sml_int (by omega) (by omega)⟩
  · exact ⟨_, fun H => .int _, sml_int (by omega) (by omega)⟩
  · cases u with
    | none => exact ⟨_, fun H => .non, by decide +kernel, by decide +kernel, by decide +kernel⟩
    | some v =>
      have := dk.u0 v rfl
      have := dk.u1 v rfl
      exact ⟨_, fun H => .int _, sml_int (by omega) (by omega)⟩
theorem desk_row {K : PySem.W.Frag} {R p l : Addr} {H : Hp} {xs : List V} (h : ∀ x ∈ xs, ∃ d, (∀ H : Hp, Dq K H x d) ∧ Sml 3 300 d) : Row K R p l H xs := fun x hx => by
  obtain ⟨d, h1, h2⟩ := h x hx
  exact ⟨d, fun H2 _ => h1 H2, h2⟩
def sp_l_right_desk (K : PySem.W.Frag) : Sp := fun vs H Q _ => ∃ (p l : Addr) (n : Int), vs = [.ref p] ∧ Deck H p l n ∧ 0 ≤ n ∧ n ≤ 900000 ∧
  ∀ H' q ka kb m num den least step u n', Fr p l H H' → Deck H' p l n' → n ≤ n' → n' ≤ n + 20 → H' q = some (.tup (deskV ka kb m num den least step u)) → 0 ≤ ka → ka ≤ 3 → 0 ≤ kb → kb ≤ 3 → ka ≠ kb → Dk m num den least step u → Q (.ref q) H'
def sp_l_bent (K : PySem.W.Frag) : Sp := fun vs H Q _ => ∃ (p l q : Addr) (n ka kb : Int) (m : Nat) (num den least step : Int) (u : Option Int), vs = [.ref p, .ref q] ∧ Deck H p l n ∧ 0 ≤ n ∧ n ≤ 800000 ∧ H q = some (.tup (deskV ka kb m num den least step u)) ∧ Dk m num den least step u ∧ 0 ≤ ka ∧ ka ≤ 3 ∧ 0 ≤ kb ∧ kb ≤ 3 ∧
  ∀ H' x d n', Fr p l H H' → Deck H' p l n' → n ≤ n' → n' ≤ n + 20 → Dq K H' x d → Sml 9 9000 d → Q x H'
section
variable {P : Program} {w : World} {K : PySem.W.Frag} {mg : Str → Option Value} {base : Heap}
abbrev s_l_right_desk : Stmt := topS 18
abbrev N_l_right_desk : List Str := ["_law_deck_here", "_law_a", "_law_least", "_law_upto", "_law_b", "_law_row", "_law_how"]
theorem sc_l_right_desk : FnScope N_l_right_desk ["_law_deck_here"] (defScope s_l_right_desk) := ⟨rfl, rfl, rfl, by decide +kernel, rfl, by decide +kernel, by decide +kernel⟩
theorem ok_l_right_desk (T : Txt mg) (D : Df K mg "_law_right_desk" s_l_right_desk ["_law_deck_here"]) (C_l_draw : Cal P w K mg base "_law_draw" ["_law_deck_here", "_law_many"] 1 (sp_l_draw K)) (C_l_one : Cal P w K mg base "_law_one" ["_law_deck_here", "_law_items"] 2 (sp_l_one K)) : Cal P w K mg base "_law_right_desk" ["_law_deck_here"] 3 (sp_l_right_desk K) := by
  obtain ⟨f_l_draw, fd_l_draw, G_l_draw, m_l_draw, k_l_draw, b_l_draw⟩ := C_l_draw
  obtain ⟨f_l_one, fd_l_one, G_l_one, m_l_one, k_l_one, b_l_one⟩ := C_l_one
  refine D.cal sc_l_right_desk (fun vs H Q E h => ?_) (fun f cdv A outer s H vs Q E hr h => ?_)
  · obtain ⟨p, l, n, rfl, _⟩ := h
    rfl
  obtain ⟨p, l, n, rfl, D, n0, n1, k⟩ := h
  refine ⟨_, (pss_cons (ps_set (i := 1) sc_l_right_desk.nd rfl (Or.inl rfl) (pe_call G_l_draw (hr.mono (by decide)) (by rfl) m_l_draw k_l_draw b_l_draw .nil pass0 (pa_cons (pv 0) (pa_cons pe_int pa_nil))))
    (pss_cons (ps_set (i := 2) sc_l_right_desk.nd rfl (Or.inl rfl) (pe_op op_add pe_int (pe_call G_l_draw (hr.mono (by decide)) (by rfl) m_l_draw k_l_draw b_l_draw .nil pass0 (pa_cons (pv 0) (pa_cons pe_int pa_nil)))))
    (pss_cons (ps_set (i := 3) sc_l_right_desk.nd rfl (Or.inl rfl) (pe_call G_l_one (hr.mono (by decide)) (by rfl) m_l_one k_l_one b_l_one .nil pass0 (pa_cons (pv 0) (pa_cons (pe_lst (pa_cons pe_non (pa_cons (pv 2) (pa_cons pe_int (pa_cons (pe_op op_add (pv 2) (pe_call G_l_draw (hr.mono (by decide)) (by rfl) m_l_draw k_l_draw b_l_draw .nil pass0 (pa_cons (pv 0) (pa_cons pe_int pa_nil)))) pa_nil))))) pa_nil))))
    (pss_cons (ps_set (i := 4) sc_l_right_desk.nd rfl (Or.inl rfl) (pe_op op_modN (pe_callTy call_int1 (by rfl) T.n_int (by decide +kernel) (pa_cons (pe_op op_add (pe_op op_add (pv 1) pe_int) (pe_call G_l_draw (hr.mono (by decide)) (by rfl) m_l_draw k_l_draw b_l_draw .nil pass0 (pa_cons (pv 0) (pa_cons pe_int pa_nil)))) pa_nil)) pe_int))
    (pss_cons (ps_set (i := 5) sc_l_right_desk.nd rfl (Or.inl rfl) (pe_tup (pa_cons (pv 1) (pa_cons (pv 4) (pa_cons (pe_call G_l_draw (hr.mono (by decide)) (by rfl) m_l_draw k_l_draw b_l_draw .nil pass0 (pa_cons (pv 0) (pa_cons pe_int pa_nil))) (pa_cons (pe_op op_add pe_int (pe_call G_l_draw (hr.mono (by decide)) (by rfl) m_l_draw k_l_draw b_l_draw .nil pass0 (pa_cons (pv 0) (pa_cons pe_int pa_nil)))) pa_nil))))))
    (pss_cons (ps_set (i := 6) sc_l_right_desk.nd rfl (Or.inl rfl) (pe_call G_l_one (hr.mono (by decide)) (by rfl) m_l_one k_l_one b_l_one .nil pass0 (pa_cons (pv 0) (pa_cons (pe_lst (pa_cons pe_str (pa_cons pe_str (pa_cons pe_str pa_nil)))) pa_nil))))
    (pss_one (ps_ret (pe_op op_catA (pv 5) (pe_tup (pa_cons (pv 6) (pa_cons (pv 2) (pa_cons (pe_op op_add pe_int (pe_call G_l_draw (hr.mono (by decide)) (by rfl) m_l_draw k_l_draw b_l_draw .nil pass0 (pa_cons (pv 0) (pa_cons pe_int pa_nil)))) (pa_cons (pv 3) pa_nil)))))))))))))), ?_⟩
  refine ⟨_, rfl, p, l, n, 4, rfl, D, n0, by omega, by decide, by decide, fun ra H1 ra0 ra1 f1 D1 => ?_⟩
  refine ⟨_, rfl, p, l, n + 1, 30, rfl, D1, by omega, by omega, by decide, by decide, fun rl H2 rl0 rl1 f2 D2 => ⟨_, _, rfl, rfl, ?_⟩⟩
  refine ⟨_, rfl, _, rfl, _, rfl, _, rfl, p, l, n + 1 + 1, 100, rfl, D2, by omega, by omega, by decide, by decide, fun ru H3 ru0 ru1 f3 D3 => ⟨_, _, rfl, rfl, (by show 4 ≤ sizeLine; decide), fun L nL => ?_⟩⟩
  have sL := same_upd (o := .lst [.non, .int (1 + rl), .int 1000, .int (1 + rl + ru)]) nL
  have lne := D3.lne nL
  refine ⟨p, l, L, n + 1 + 1 + 1, _, rfl, D3.same sL, by omega, by omega, upd_same, lne.1, lne.2, (by show 0 < 4; decide), (by show 4 ≤ 1000; decide), fun x H4 hx f4 D4 => ?_⟩
  obtain ⟨u, rfl, u0, u1⟩ : ∃ u, x = upV u ∧ (∀ v, u = some v → 1 + rl ≤ v) ∧ (∀ v, u = some v → v ≤ 1000) := by
    simp only [List.mem_cons, List.not_mem_nil, or_false] at hx
    rcases hx with rfl | rfl | rfl | rfl
    · exact ⟨none, rfl, fun v q => (nomatch q), fun v q => (nomatch q)⟩
    · exact ⟨some (1 + rl), rfl, fun v q => by cases q; omega, fun v q => by cases q; omega⟩
    · exact ⟨some 1000, rfl, fun v q => by cases q; omega, fun v q => by cases q; omega⟩
    · exact ⟨some (1 + rl + ru), rfl, fun v q => by cases q; omega, fun v q => by cases q; omega⟩
  have fA := ((f1.trans f2).trans f3).trans ((Same.fr sL).trans f4)
  clear hx f1 f2 f3 f4 sL D1 D2 D3 lne nL
  refine ⟨_, rfl, _, _, rfl, rfl, _, rfl, p, l, n + 1 + 1 + 1 + 1, 3, rfl, D4, by omega, by omega, by decide, by decide, fun rb H5 rb0 rb1 f5 D5 => ⟨_, _, rfl, rfl, .inl ⟨_, rfl, _, _, rfl, rfl, (show (4 : Int) ≠ 0 by decide), ?_⟩⟩⟩
  obtain ⟨kb, ekb⟩ : ∃ kb, kb = (ra + 1 + rb).fmod 4 := ⟨_, rfl⟩
  have z1 : ∀ B : Int → Prop, B kb → B ((ra + 1 + rb).fmod 4) := fun B h => by rw [← ekb]; exact h
  refine z1 (fun y => gName 4 (.int y) _ _ _) ?_
  clear z1
  rw [fmod_pos (by decide)] at ekb
  refine ⟨_, rfl, _, rfl, _, rfl, p, l, _, 31, rfl, D5, by omega, by omega, by decide, by decide, fun rn H6 rn0 rn1 f6 D6 => ?_⟩
  refine ⟨_, rfl, p, l, _, 30, rfl, D6, by omega, by omega, by decide, by decide, fun rd H7 rd0 rd1 f7 D7 => ⟨_, _, rfl, rfl, (by show 4 ≤ sizeLine; decide), fun R nR => ?_⟩⟩
  have sR := same_upd (o := .tup [.int ra, .int kb, .int rn, .int (1 + rd)]) nR
  have hR : upd H7 R (.tup [.int ra, .int kb, .int rn, .int (1 + rd)]) R = some (.tup [.int ra, .int kb, .int rn, .int (1 + rd)]) := upd_same
  have D7 := D7.same sR
  have fB := fA.trans (f5.trans (f6.trans (f7.trans (Same.fr sR))))
  generalize upd H7 R (.tup [.int ra, .int kb, .int rn, .int (1 + rd)]) = H8 at hR D7 fB ⊢
  clear fA f5 f6 f7 sR D4 D5 D6 nR
  refine ⟨_, rfl, (by show 3 ≤ sizeLine; decide), fun W nW => ?_⟩
  have sW := same_upd (o := .lst [.str "down", .str "up", .str "near"]) nW
  have lne := D7.lne nW
  refine ⟨p, l, W, _, _, rfl, D7.same sW, by omega, by omega, upd_same, lne.1, lne.2, (by show 0 < 3; decide), (by show 3 ≤ 1000; decide), fun xh H9 hxh f9 D9 => ?_⟩
  obtain ⟨m, hm, rfl⟩ : ∃ m, m ≤ 2 ∧ xh = .str (hs m) := by
    simp only [List.mem_cons, List.not_mem_nil, or_false] at hxh
    rcases hxh with rfl | rfl | rfl
    · exact ⟨0, by decide, rfl⟩
    · exact ⟨1, by decide, rfl⟩
    · exact ⟨2, by decide, rfl⟩
  have hR9 := f9.tup (D7.same sW) (sW _ _ hR)
  have fC := fB.trans ((Same.fr sW).trans f9)
  clear fB f9 sW lne nW D7 hR hxh
  refine ⟨_, rfl, _, rfl, _, rfl, _, rfl, p, l, _, 30, rfl, D9, by omega, by omega, by decide, by decide, fun rs H10 rs0 rs1 f10 D10 => ⟨_, _, rfl, rfl, _, rfl, (by show 4 ≤ sizeLine; decide), fun S nS => ?_⟩⟩
  have sS := same_upd (o := .tup [.str (hs m), .int (1 + rl), .int (1 + rs), upV u]) nS
  refine cat_uni (sS _ _ (f10.tup D9 hR9)) upd_same (by show 4 + 4 ≤ sizeLine; decide) fun q HZ sZ hq => ?_
  have sT := sS.trans sZ
  exact k HZ q ra kb m rn (1 + rd) (1 + rl) (1 + rs) u _ (fC.trans (f10.trans (Same.fr sT))) (D10.same sT) (by omega) (by omega) hq ra0 (by omega) (by omega) (by omega) (by omega) ⟨hm, by omega, by omega, by omega, by omega, by omega, by omega, by omega, by omega, u0, u1⟩
abbrev s_l_bent : Stmt := topS 20
abbrev N_l_bent : List Str := ["_law_deck_here", "_law_desk", "_law_row", "_law_time", "_law_least", "_law_some"]
theorem sc_l_bent : FnScope N_l_bent ["_law_deck_here", "_law_desk"] (defScope s_l_bent) := ⟨rfl, rfl, rfl, by decide +kernel, rfl, by decide +kernel, by decide +kernel⟩
theorem ok_l_bent (T : Txt mg) (D : Df K mg "_law_bent" s_l_bent ["_law_deck_here", "_law_desk"]) (C_l_one : Cal P w K mg base "_law_one" ["_law_deck_here", "_law_items"] 2 (sp_l_one K)) (C_l_draw : Cal P w K mg base "_law_draw" ["_law_deck_here", "_law_many"] 1 (sp_l_draw K)) (C_l_odd : Cal P w K mg base "_law_odd" ["_law_deck_here"] 3 (sp_l_odd K)) : Cal P w K mg base "_law_bent" ["_law_deck_here", "_law_desk"] 4 (sp_l_bent K) := by
  obtain ⟨f_l_one, fd_l_one, G_l_one, m_l_one, k_l_one, b_l_one⟩ := C_l_one
  obtain ⟨f_l_draw, fd_l_draw, G_l_draw, m_l_draw, k_l_draw, b_l_draw⟩ := C_l_draw
  obtain ⟨f_l_odd, fd_l_odd, G_l_odd, m_l_odd, k_l_odd, b_l_odd⟩ := C_l_odd
  refine D.cal sc_l_bent (fun vs H Q E h => ?_) (fun f cdv A outer s H vs Q E hr h => ?_)
  · obtain ⟨p, l, q, n, ka, kb, m, num, den, least, step, u, rfl, _⟩ := h
    rfl
  obtain ⟨p, l, q, n, ka, kb, m, num, den, least, step, u, rfl, D, n0, n1, hq, dk, a0, a1, b0, b1, k⟩ := h
  refine ⟨_, (pss_cons (ps_set (i := 2) sc_l_bent.nd rfl (Or.inl rfl) (pe_callTy call_listN (by rfl) T.n_list (by decide +kernel) (pa_cons (pv 1) pa_nil)))
    (pss_cons (ps_for PassesOwn.never rfl (pi_range1 (by rfl) T.n_range (pa_cons (pe_op op_add pe_int (pe_call G_l_draw (hr.mono (by decide)) (by rfl) m_l_draw k_l_draw b_l_draw .nil pass0 (pa_cons (pv 0) (pa_cons pe_int pa_nil)))) pa_nil)) (pg_name (i := 3) sc_l_bent.nd rfl (Or.inl rfl))
      (pss_one (ps_asg (pe_call G_l_odd (hr.mono (by decide)) (by rfl) m_l_odd k_l_odd b_l_odd .nil pass0 (pa_cons (pv 0) pa_nil)) (pg_sub (pv 2) (pe_call G_l_draw (hr.mono (by decide)) (by rfl) m_l_draw k_l_draw b_l_draw .nil pass0 (pa_cons (pv 0) (pa_cons pe_int pa_nil))) set_list))))
    (pss_cons (ps_set (i := 4) sc_l_bent.nd rfl (Or.inl rfl) (pe_ix ix_tup (pv 1) pe_int (fun _ _ => rfl)))
    (pss_cons (ps_set (i := 5) sc_l_bent.nd rfl (Or.inl rfl) (pe_lst (pa_cons (pe_callTy call_tuple_of (by rfl) T.n_tuple (by decide +kernel) (pa_cons (pv 2) pa_nil)) (pa_cons (pe_callTy call_tuple_of (by rfl) T.n_tuple (by decide +kernel) (pa_cons (pv 2) pa_nil)) (pa_cons (pv 2) (pa_cons (pe_callTy call_tuple_of (by rfl) T.n_tuple (by decide +kernel) (pa_cons (pe_slice sl_list (pv 2) po_none (po_some pe_int)) pa_nil)) (pa_cons (pe_op op_catA (pe_slice sl_tupA (pv 1) po_none (po_some pe_int)) (pe_tup (pa_cons (pe_op op_sub (pv 4) pe_int) pa_nil))) pa_nil)))))))
    (pss_one (ps_ret (pe_call G_l_one (hr.mono (by decide)) (by rfl) m_l_one k_l_one b_l_one .nil pass0 (pa_cons (pv 0) (pa_cons (pe_op op_cat (pv 5) (pe_lst (pa_cons (pe_op op_catA (pe_tup (pa_cons (pe_ix ix_tup (pv 1) pe_int (fun _ _ => rfl)) pa_nil)) (pe_slice sl_tupA (pv 1) (po_some pe_int) po_none)) pa_nil))) pa_nil))))))))), ?_⟩
  have row0 := fun (R : Addr) (H' : Hp) => desk_row (K := K) (R := R) (p := p) (l := l) (H := H') (desk_item (K := K) dk a0 a1 b0 b1)
  refine ⟨_, rfl, q, _, rfl, hq, fun R nR neR => ?_⟩
  have sR := same_upd (o := .lst (deskV ka kb m num den least step u)) nR
  have lne := D.lne nR
  have hR : upd H R (.lst (deskV ka kb m num den least step u)) R = some (.lst (deskV ka kb m num den least step u)) := upd_same
  have DR := D.same sR
  generalize upd H R (.lst (deskV ka kb m num den least step u)) = HR at sR hR DR ⊢
  refine ⟨_, rfl, p, l, n, 2, rfl, DR, n0, by omega, by decide, by decide, fun rt H1 rt0 rt1 f1 D1 => ⟨_, _, rfl, rfl, _, rfl, (by omega), (by omega), ?_⟩⟩
  have hN : (1 + rt).toNat ≤ 2 := by omega
  generalize (1 + rt).toNat = N at hN ⊢
  refine for_range (lo := 0) (n := N) (fun i σ H' => ∃ xs n' v3, σ = [some (.ref p), some (.ref q), some (.ref R), v3, none, none] ∧ xs.length = 8 ∧ H' R = some (.lst xs) ∧ Row K R p l H' xs ∧ Deck H' p l n' ∧ n + 1 ≤ n' ∧ n' ≤ n + 1 + 2 * (i : Int) ∧ Fr p l H H')
    ⟨_, n + 1, none, rfl, rfl, f1 _ _ lne.1 lne.2 hR, row0 R H1, D1, by omega, by omega, (Same.fr sR).trans f1⟩ ?_ ?_
  · rintro i σ H' hi ⟨xs, n', v3, rfl, lx, hR', row, D', n'0, n'1, fr⟩
    refine ⟨_, rfl, p, l, n', rfl, D', by omega, by omega, fun H2 x d f2 D2 dn sm => ?_⟩
    refine ⟨_, rfl, _, rfl, p, l, n' + 1, 8, rfl, D2, by omega, by omega, by decide, by decide, fun r H3 r0 r1 f3 D3 => ?_⟩
    have fr23 := f2.trans f3
    refine ⟨R, xs, r, r.toNat, rfl, rfl, fr23 _ _ lne.1 lne.2 hR', ?_, ?_⟩
    · unfold ixN
      rw [if_pos r0, if_pos (by omega)]
    have keep : ∀ b o, b ≠ R → b ≠ p → b ≠ l → H' b = some o → upd H3 R (.lst (xs.set r.toNat x)) b = some o := fun b o n1 n2 n3 h => by
      rw [upd_ne n1]
      exact fr23 b o n2 n3 h
    refine ⟨xs.set r.toNat x, n' + 1 + 1, _, rfl, by rw [List.length_set]; exact lx, upd_same, fun y hy => ?_, ?_, by omega, by omega, fun b o h1 h2 h => ?_⟩
    · rcases List.mem_or_eq_of_mem_set hy with g | rfl
      · exact (row.mono keep) y g
      · refine ⟨d, fun H4 h4 => dn H4 fun b o nb hb => ?_, sm⟩
        have h1 : b ≠ R := fun z => by rw [z, hR'] at nb; cases nb
        have h2 : b ≠ p := fun z => by rw [z, D'.hp] at nb; cases nb
        have h3 : b ≠ l := fun z => by
          obtain ⟨cells, hl, _⟩ := D'.hl
          rw [z, hl] at nb
          cases nb
        refine h4 b o h1 h2 h3 ?_
        rw [upd_ne h1]
        exact f3 b o h2 h3 hb
    · obtain ⟨cells, hl, hc⟩ := D3.hl
      exact ⟨by rw [upd_ne lne.1.symm]; exact D3.hp, cells, by rw [upd_ne lne.2.symm]; exact hl, hc⟩
    · have nb : b ≠ R := fun z => by rw [z, nR] at h; cases h
      rw [upd_ne nb]
      exact fr23 b o h1 h2 (fr b o h1 h2 h)
  rintro σ H1 ⟨xs, n', v3, rfl, lx, hR', row, D', n'0, n'1, fr⟩
  have hq1 := fr.tup D hq
  obtain ⟨x1, x2, x3, x4, x5, x6, x7, x8, rfl⟩ : ∃ x1 x2 x3 x4 x5 x6 x7 x8, xs = [x1, x2, x3, x4, x5, x6, x7, x8] := by
    match xs, lx with
    | [x1, x2, x3, x4, x5, x6, x7, x8], _ => exact ⟨_, _, _, _, _, _, _, _, rfl⟩
  refine ⟨_, rfl, _, _, _, _, rfl, rfl, SqT.of hq1, atI_nat (j := 5) rfl, ?_⟩
  refine ⟨_, rfl, _, _, rfl, .inl ⟨SqL.of hR', fun t1 nt1 => ?_⟩⟩
  have s1 := same_upd (o := .tup [x1, x2, x3, x4, x5, x6, x7, x8]) nt1
  refine ⟨_, rfl, _, _, rfl, .inl ⟨SqL.of (s1 _ _ hR'), fun t2 nt2 => ?_⟩⟩
  have s2 := same_upd (o := .tup [x1, x2, x3, x4, x5, x6, x7, x8]) nt2
  refine ⟨_, rfl, _, rfl, _, rfl, R, _, rfl, SqL.of (s2 _ _ (s1 _ _ hR')), fun c nc => ?_⟩
  have s3 := same_upd (o := .lst (cutV [x1, x2, x3, x4, x5, x6, x7, x8] none (some 7))) nc
  refine ⟨_, _, rfl, .inl ⟨SqL.of upd_same, fun t3 nt3 => ?_⟩⟩
  have s4 := same_upd (o := .tup (cutV [x1, x2, x3, x4, x5, x6, x7, x8] none (some 7))) nt3
  have ss := s1.trans (s2.trans (s3.trans s4))
  refine ⟨_, rfl, _, rfl, ?_⟩
  refine sl_uni (ss _ _ hq1) fun u1 H2 g1 hu1 => ?_
  refine ⟨_, rfl, _, _, rfl, rfl, (by show 1 ≤ sizeLine; decide), fun t4 nt4 => ?_⟩
  have s5 := same_upd (o := .tup [.int (least - 1)]) nt4
  refine cat_uni (s5 _ _ hu1) upd_same (by show 7 + 1 ≤ sizeLine; decide) fun t5 H3 g2 ht5 => ?_
  refine ⟨(by show 5 ≤ sizeLine; decide), fun L5 nL5 => ?_⟩
  have s6 := same_upd (o := .lst [.ref t1, .ref t2, .ref R, .ref t3, .ref t5]) nL5
  have sA := ss.trans (g1.trans (s5.trans (g2.trans s6)))
  refine ⟨_, rfl, _, rfl, _, rfl, _, _, _, _, rfl, rfl, SqT.of (sA _ _ hq1), atI_nat (j := 1) rfl, (by show 1 ≤ sizeLine; decide), fun t6 nt6 => ⟨_, rfl, _, rfl, ?_⟩⟩
  have s7 := same_upd (o := .tup [.int kb]) nt6
  refine no_part (sl_uni ((sA.trans s7) _ _ hq1) fun u2 H4 g3 hu2 => ?_)
  refine cat_uni (g3 _ _ upd_same) hu2 (by show 1 + 7 ≤ sizeLine; decide) fun t7 H5 g4 ht7 => ?_
  refine ⟨(by show 1 ≤ sizeLine; decide), fun B nB => ?_⟩
  have s8 := same_upd (o := .lst [.ref t7]) nB
  have sB := s7.trans (g3.trans (g4.trans s8))
  refine ⟨L5, B, _, _, rfl, rfl, sB _ _ upd_same, upd_same, (by show 5 + 1 ≤ sizeLine; decide), fun C nC => ?_⟩
  have s9 := same_upd (o := .lst ([.ref t1, .ref t2, .ref R, .ref t3, .ref t5] ++ [.ref t7])) nC
  have sC := sB.trans s9
  have sZ := sA.trans sC
  have lne2 := (D'.same (sA.trans sB)).lne nC
  have h1 := ((s2.trans (s3.trans s4)).trans (g1.trans (s5.trans (g2.trans (s6.trans sC))))) t1 _ upd_same
  have h2 := ((s3.trans s4).trans (g1.trans (s5.trans (g2.trans (s6.trans sC))))) t2 _ upd_same
  have h3 := (g1.trans (s5.trans (g2.trans (s6.trans sC)))) t3 _ upd_same
  have h5 := (s6.trans sC) t5 _ ht5
  have h7 := (s8.trans s9) t7 _ ht7
  have hRz := sZ _ _ hR'
  have DC := D'.same sZ
  refine ⟨p, l, C, n', _, rfl, DC, by omega, by omega, upd_same, lne2.1, lne2.2, (by show 0 < 5 + 1; decide), (by show 5 + 1 ≤ 1000; decide), fun x HZ hx f DZ => ?_⟩
  have e : ∀ b o, b ≠ R → b ≠ p → b ≠ l → H1 b = some o → HZ b = some o := fun b o _ n2 n3 h => f b o n2 n3 (sZ _ _ h)
  have z1 := f.tup DC h1
  have z2 := f.tup DC h2
  have z3 := f.tup DC h3
  have z5 := f.tup DC h5
  have z7 := f.tup DC h7
  have zR := f _ _ lne.1 lne.2 hRz
  have fr9 := fr.trans ((Same.fr sZ).trans f)
  have k := fun x d => k HZ x d (n' + 1) fr9 DZ (by omega) (by omega)
  clear h1 h2 h3 h5 h7 hRz s1 s2 s3 s4 s5 s6 s7 s8 s9 sA sB sC g1 g2 g3 g4 ss f DC
  have fin : ∀ (t : Addr) (ys : List V), HZ t = some (.tup ys) → ys.length ≤ 8 → Row K R p l H1 ys → Q (.ref t) HZ := fun t ys ht ly ry => by
    obtain ⟨ds, q1, q2, q3⟩ := ry.dq e
    exact k _ _ (.tup ht q1) (sml_tup q3 (by omega))
  have items := desk_item (K := K) dk a0 a1 b0 b1
  simp only [List.mem_append, List.mem_cons, List.not_mem_nil, or_false] at hx
  rcases hx with (rfl | rfl | rfl | rfl | rfl) | rfl
  · exact fin _ _ z1 (Nat.le_refl 8) row
  · exact fin _ _ z2 (Nat.le_refl 8) row
  · obtain ⟨ds, q1, q2, q3⟩ := row.dq e
    exact k _ _ (.lst zR neR q1) (sml_lst q3 (by rw [q2]; exact Nat.le_refl 8))
  · refine fin _ [x1, x2, x3, x4, x5, x6, x7] z3 (show 7 ≤ 8 by decide) fun y hy => row y ?_
    simp only [List.mem_cons, List.not_mem_nil, or_false] at hy ⊢
    rcases hy with h | h | h | h | h | h | h <;> simp [h]
  · refine fin _ [.int ka, .int kb, .int num, .int den, .str (hs m), .int least, .int step, .int (least - 1)] z5 (Nat.le_refl 8) (desk_row fun y hy => ?_)
    have hy : y ∈ deskV ka kb m num den least step u ∨ y = .int (least - 1) := by
      simp only [List.mem_cons, List.not_mem_nil, or_false] at hy ⊢
      rcases hy with h | h | h | h | h | h | h | h <;> simp [h]
    rcases hy with h | rfl
    · exact items y h
    · have := dk.l0
      have := dk.l1
      exact ⟨_, fun H => .int _, sml_int (by omega) (by omega)⟩
  · refine fin _ [.int kb, .int kb, .int num, .int den, .str (hs m), .int least, .int step, upV u] z7 (Nat.le_refl 8) (desk_row fun y hy => items y ?_)
    simp only [List.mem_cons, List.not_mem_nil, or_false] at hy ⊢
    rcases hy with h | h | h | h | h | h | h | h <;> simp [h]
end
end Sm

set_option Elab.async false
set_option linter.all false
set_option maxRecDepth 100000
set_option maxHeartbeats 16000000
namespace Sm
open PySem PySem.Spec PyProof.Rows L2
open C8 (pss_cut tCut)
def sp_l_amounts_right (K : PySem.W.Frag) : Sp := fun vs H Q _ => ∃ (p l q : Addr) (n ka kb : Int) (m : Nat) (num den least step : Int) (u : Option Int), vs = [.ref p, .ref q] ∧ Deck H p l n ∧ 0 ≤ n ∧ n ≤ 800000 ∧ H q = some (.tup (deskV ka kb m num den least step u)) ∧ Dk m num den least step u ∧
  ∀ H' n', Fr p l H H' → Deck H' p l n' → n ≤ n' → n' ≤ n + 20 → Q (.bl true) H'
/-- amounts in a list, while it grows -/
def Am (p l q : Addr) (n : Int) (H : Hp) (c N : Nat) (σ : L2.St) (H' : Hp) : Prop := ∃ (A : Addr) (ns : List Int) (n' far : Int) (v3 v4 v5 : Option V), σ = [some (.ref p), some (.ref q), some (.ref A), v3, v4, v5] ∧ (c = 2 → v3 = some (.int far)) ∧ 0 ≤ far ∧ far ≤ 10000000000000000000000000 ∧ H' A = some (.lst (ns.map V.int)) ∧ A ≠ p ∧ A ≠ l ∧ ns.length ≤ N ∧ (∀ x ∈ ns, -1 ≤ x ∧ x ≤ 100000000000000000000000000000000) ∧ Deck H' p l n' ∧ n ≤ n' ∧ n' ≤ n + (c : Int) ∧ Fr p l H H'
theorem gm_small {m : Nat} {e d : Int} (e0 : 0 ≤ e) (e1 : e ≤ 10000000000000000000000000000000000) (d0 : 1 ≤ d) (d1 : d ≤ 30) : (Gm m e d).natAbs.log2 < 1920 := by
  have z : 0 ≤ Gm m e d ∧ Gm m e d ≤ 2 * e + 30 := by
    unfold Gm
    split
    · exact ⟨Int.ediv_nonneg e0 (by omega), by have := Int.ediv_le_self (b := d) e0; omega⟩
    · split
      · have n : 0 ≤ e + d - 1 := by omega
        exact ⟨Int.ediv_nonneg n (by omega), by have := Int.ediv_le_self (b := d) n; omega⟩
      · have n : 0 ≤ 2 * e + d := by omega
        exact ⟨Int.ediv_nonneg n (by omega), by have := Int.ediv_le_self (b := 2 * d) n; omega⟩
  exact Nat.lt_of_lt_of_le (PySem.Flt.log2_lt_of (k := 310) (by decide) (by omega)) (by decide)
theorem cat_ints {ns ms : List Int} : ns.map V.int ++ ms.map V.int = (ns ++ ms).map V.int := (List.map_append ..).symm
section
variable {P : Program} {w : World} {K : PySem.W.Frag} {mg : Str → Option Value} {base : Heap}
abbrev s_l_amounts_right : Stmt := topS 21
abbrev N_l_amounts_right : List Str := ["_law_deck_here", "_law_desk", "_law_some", "_law_far", "_law_x", "_law_due"]
theorem sc_l_amounts_right : FnScope N_l_amounts_right ["_law_deck_here", "_law_desk"] (defScope s_l_amounts_right) := ⟨rfl, rfl, rfl, by decide +kernel, rfl, by decide +kernel, by decide +kernel⟩
theorem ok_l_amounts_right (T : Txt mg) (D : Df K mg "_law_amounts_right" s_l_amounts_right ["_law_deck_here", "_law_desk"]) (C_takes : Cal P w K mg base "takes" ["desk", "x"] 1 (sp_takes K)) (C_gives : Cal P w K mg base "gives" ["desk", "x"] 2 (sp_gives K)) (C_l_gives : Cal P w K mg base "_law_gives" ["_law_desk", "_law_x"] 1 (sp_l_gives K)) (C_l_draw : Cal P w K mg base "_law_draw" ["_law_deck_here", "_law_many"] 1 (sp_l_draw K)) : Cal P w K mg base "_law_amounts_right" ["_law_deck_here", "_law_desk"] 3 (sp_l_amounts_right K) := by
  obtain ⟨f_takes, fd_takes, G_takes, m_takes, k_takes, b_takes⟩ := C_takes
  obtain ⟨f_gives, fd_gives, G_gives, m_gives, k_gives, b_gives⟩ := C_gives
  obtain ⟨f_l_gives, fd_l_gives, G_l_gives, m_l_gives, k_l_gives, b_l_gives⟩ := C_l_gives
  obtain ⟨f_l_draw, fd_l_draw, G_l_draw, m_l_draw, k_l_draw, b_l_draw⟩ := C_l_draw
  refine D.cal sc_l_amounts_right (fun vs H Q E h => ?_) (fun f cdv A outer s H vs Q E hr h => ?_)
  · obtain ⟨p, l, q, n, ka, kb, m, num, den, least, step, u, rfl, _⟩ := h
    rfl
  obtain ⟨p, l, q, n, ka, kb, m, num, den, least, step, u, rfl, D, n0, n1, hq, dk, k⟩ := h
  refine ⟨_, (pss_cut (ps_set (i := 2) sc_l_amounts_right.nd rfl (Or.inl rfl) (pe_op op_cat (pe_lc (own := [("_law_x", 4)]) (g := gName 4) (tt := tYes) rfl sc_l_amounts_right.nd (pi_range1 (by rfl) T.n_range (pa_cons pe_int pa_nil)) (blkOk_by (own := [("_law_x", 4)]) (N := N_l_amounts_right) (sc := defScope s_l_amounts_right) (by decide +kernel)) (fun _ _ _ _ _ => pg_name (i := 4) sc_l_amounts_right.nd rfl (Or.inl rfl)) (fun _ _ _ _ _ => pts_nil) (fun _ _ _ _ _ => (pv 4))) (pe_lst (pa_cons (pe_op op_sub (pe_ix ix_tup (pv 1) pe_int (fun _ _ => rfl)) pe_int) (pa_cons (pe_op op_mul (pe_ix ix_tup (pv 1) pe_int (fun _ _ => rfl)) (pe_ix ix_tup (pv 1) pe_int (fun _ _ => rfl))) (pa_cons (pe_op op_pow pe_int pe_int) pa_nil))))))
    (pss_cut (ps_set (i := 2) sc_l_amounts_right.nd rfl (Or.inl rfl) (pe_op op_cat (pv 2) (pe_lst (pa_cons (pe_op op_mul (pe_call G_l_draw (hr.mono (by decide)) (by rfl) m_l_draw k_l_draw b_l_draw .nil pass0 (pa_cons (pv 0) (pa_cons (pe_op op_pow pe_int pe_int) pa_nil))) (pe_ix ix_tup (pv 1) pe_int (fun _ _ => rfl))) pa_nil))))
    (pss_cut (ps_set (i := 3) sc_l_amounts_right.nd rfl (Or.inl rfl) (pe_op op_mul (pe_op op_mul (pe_op op_mul (pe_call G_l_draw (hr.mono (by decide)) (by rfl) m_l_draw k_l_draw b_l_draw .nil pass0 (pa_cons (pv 0) (pa_cons (pe_op op_pow pe_int pe_int) pa_nil))) (pe_ix ix_tup (pv 1) pe_int (fun _ _ => rfl))) (pe_ix ix_tup (pv 1) pe_int (fun _ _ => rfl))) (pe_op op_pow pe_int pe_int)))
    (pss_cut (ps_set (i := 2) sc_l_amounts_right.nd rfl (Or.inl rfl) (pe_op op_cat (pv 2) (pe_lst (pa_cons (pe_op op_add (pv 3) (pe_op op_mul (pe_ix ix_tup (pv 1) pe_int (fun _ _ => rfl)) (pe_call G_l_draw (hr.mono (by decide)) (by rfl) m_l_draw k_l_draw b_l_draw .nil pass0 (pa_cons (pv 0) (pa_cons pe_int pa_nil))))) pa_nil))))
    (pss_cut (ps_set (i := 2) sc_l_amounts_right.nd rfl (Or.inl rfl) (pe_op op_cat (pv 2) (pe_ifExp (pt_cmpR op_notN (pe_ix ix_tup (pv 1) pe_int (fun _ _ => rfl)) pe_non (nomark _)) (pe_lst (pa_cons (pe_op op_sub (pe_ix ix_tup (pv 1) pe_int (fun _ _ => rfl)) pe_int) (pa_cons (pe_ix ix_tup (pv 1) pe_int (fun _ _ => rfl)) (pa_cons (pe_op op_add (pe_ix ix_tup (pv 1) pe_int (fun _ _ => rfl)) pe_int) pa_nil)))) (pe_lst pa_nil))))
    (pss_cons (ps_for PassesOwn.never rfl (pi_list (pv 2)) (pg_name (i := 4) sc_l_amounts_right.nd rfl (Or.inl rfl))
      (pss_cons (ps_set (i := 5) sc_l_amounts_right.nd rfl (Or.inl rfl) (pe_call G_l_gives (hr.mono (by decide)) (by rfl) m_l_gives k_l_gives b_l_gives .nil pass0 (pa_cons (pv 1) (pa_cons (pv 4) pa_nil))))
    (pss_one (ps_if (PW.pt (pw_or (pt_cmpR op_ne (pe_callB call_repr_some (by rfl) T.n_repr (by decide +kernel) (pa_cons (pe_call G_gives (hr.mono (by decide)) (by rfl) m_gives k_gives b_gives .nil pass0 (pa_cons (pv 1) (pa_cons (pv 4) pa_nil))) pa_nil)) (pe_callB call_repr_some (by rfl) T.n_repr (by decide +kernel) (pa_cons (pv 5) pa_nil)) (nomark _)) (pw_or1 (pt_cmpR op_ne (pe_call G_takes (hr.mono (by decide)) (by rfl) m_takes k_takes b_takes .nil pass0 (pa_cons (pv 1) (pa_cons (pv 4) pa_nil))) (pe_cmpR op_notN (pv 5) pe_non (nomark _)) (nomark _))))) (pss_one (ps_ret pe_bl)) pss_nil))))
    (pss_one (ps_ret pe_bl)))))))), ?_⟩
  have l0 := dk.l0
  have l1 := dk.l1
  have s0 := dk.s0
  have s1 := dk.s1
  have d0 := dk.d0
  have d1 := dk.d1
  refine ⟨Am p l q n H 0 50, ?_, ?_⟩
  · refine ⟨41, rfl, by decide, by decide, fun U nU => ?_⟩
    have sU := same_upd (o := .lst []) nU
    refine lc_range (lo := 0) (n := 41) (fun j H2 => Same H H2 ∧ H2 U = some (.lst (((List.range j).map fun x : Nat => (x : Int)).map V.int))) ⟨sU, upd_same⟩ ?_ ?_
    · rintro j H2 hj ⟨s2, hU⟩
      refine ⟨rfl, ?_⟩
      unfold tYes
      refine iteT ?_
      rw [Int.zero_add]
      refine ⟨_, rfl, _, hU, ?_, fun b o e' => ?_, ?_⟩
      · rw [List.length_map, List.length_map, List.length_range]
        exact Nat.lt_of_le_of_lt (show j ≤ 20000 by omega) (by decide)
      · rw [upd_ne (ne_of_none e' nU)]
        exact s2 _ _ e'
      · rw [upd_same, List.range_succ, List.map_append, List.map_append]
        rfl
    rintro H2 ⟨s2, hU⟩
    have hq2 := s2 _ _ hq
    refine ⟨_, rfl, _, _, _, _, rfl, rfl, SqT.of hq2, atI_nat (j := 5) rfl, _, _, rfl, rfl, _, rfl, _, _, _, _, rfl, rfl, SqT.of hq2, atI_nat (j := 5) rfl, _, rfl, _, _, _, _, rfl, rfl, SqT.of hq2, atI_nat (j := 6) rfl, _, _, rfl, rfl, .inl ⟨by omega, by omega⟩, _, _, rfl, rfl, ⟨by decide, by decide, by decide⟩, (by show 3 ≤ sizeLine; decide), fun B nB => ?_⟩
    have sB := same_upd (o := .lst [.int (least - 1), .int (least * step), .int (10 ^ Int.toNat 30)]) nB
    refine ⟨U, B, _, _, rfl, rfl, sB _ _ hU, upd_same, (by rw [List.length_map, List.length_map, List.length_range]; show 41 + 3 ≤ sizeLine; decide), fun C nC => ?_⟩
    have sC := same_upd (o := .lst (((List.range 41).map fun x : Nat => (x : Int)).map V.int ++ [.int (least - 1), .int (least * step), .int (10 ^ Int.toNat 30)])) nC
    have ss := s2.trans (sB.trans sC)
    have lne := (D.same (s2.trans sB)).lne nC
    have m0 : least * step ≤ 30 * 30 := Int.mul_le_mul l1 s1 (by omega) (by decide)
    have m1 : 0 ≤ least * step := Int.mul_nonneg (by omega) (by omega)
    refine ⟨C, (List.range 41).map (fun x : Nat => (x : Int)) ++ [least - 1, least * step, 10 ^ Int.toNat 30], n, 0, none, none, none, rfl, fun z => absurd z (by decide), by decide, by decide, ?_, lne.1, lne.2, ?_, fun x hx => ?_, D.same ss, by omega, by omega, Same.fr ss⟩
    · rw [← cat_ints]
      exact upd_same
    · rw [List.length_append, List.length_map, List.length_range]
      show 41 + 3 ≤ 50
      decide
    · rcases List.mem_append.mp hx with h | h
      · obtain ⟨y, hy, rfl⟩ := List.mem_map.mp h
        have := List.mem_range.mp hy
        omega
      · simp only [List.mem_cons, List.not_mem_nil, or_false] at h
        rcases h with rfl | rfl | rfl
        · omega
        · omega
        · exact ⟨by decide, by decide⟩
  rintro σ H1 ⟨A, ns, n', far, v3, v4, v5, rfl, hv, far0, far1, hA, np, nl, lA, bA, D1, n10, n11, fr1⟩
  have hq1 := fr1.tup D hq
  refine ⟨Am p l q n H 1 60, ?_, ?_⟩
  · refine ⟨_, rfl, _, rfl, _, _, rfl, rfl, ⟨by decide, by decide, by decide⟩, p, l, n', _, rfl, D1, by omega, by omega, by decide, by decide, fun r H2 r0 r1 f2 D2 => ?_⟩
    have hq2 := f2.tup D1 hq1
    refine ⟨_, rfl, _, _, _, _, rfl, rfl, SqT.of hq2, atI_nat (j := 6) rfl, _, _, rfl, rfl, .inr ⟨by omega, by omega⟩, (by show 1 ≤ sizeLine; decide), fun B nB => ?_⟩
    have sB := same_upd (o := .lst [.int (r * step)]) nB
    refine ⟨A, B, _, _, rfl, rfl, sB _ _ (f2 _ _ np nl hA), upd_same, (by rw [List.length_map]; exact Nat.le_trans (show ns.length + 1 ≤ 100 by omega) (by decide)), fun C nC => ?_⟩
    have sC := same_upd (o := .lst (ns.map V.int ++ [.int (r * step)])) nC
    have lne := (D2.same sB).lne nC
    have ss := sB.trans sC
    have r1 : r < 1000000000000 := r1
    have m0 : r * step ≤ 1000000000000 * 30 := Int.mul_le_mul (by omega) s1 (by omega) (by decide)
    have m1 : 0 ≤ r * step := Int.mul_nonneg (by omega) (by omega)
    refine ⟨C, ns ++ [r * step], n' + 1, 0, v3, v4, v5, rfl, fun z => absurd z (by decide), by decide, by decide, ?_, lne.1, lne.2, ?_, fun x hx => ?_, D2.same ss, by omega, by omega, fr1.trans (f2.trans (Same.fr ss))⟩
    · rw [← cat_ints]
      exact upd_same
    · rw [List.length_append]
      show ns.length + 1 ≤ 60
      omega
    · rcases List.mem_append.mp hx with h | h
      · exact bA x h
      · rw [List.mem_singleton.mp h]
        omega
  clear hv far0 far1 hA np nl lA bA D1 n10 n11 fr1 hq1
  rintro σ H1 ⟨A, ns, n', far, v3, v4, v5, rfl, hv, far0, far1, hA, np, nl, lA, bA, D1, n10, n11, fr1⟩
  have hq1 := fr1.tup D hq
  refine ⟨Am p l q n H 2 60, ?_, ?_⟩
  · refine ⟨_, rfl, _, _, rfl, rfl, ⟨by decide, by decide, by decide⟩, p, l, n', _, rfl, D1, by omega, by omega, by decide, by decide, fun r H2 r0 r1 f2 D2 => ?_⟩
    have hq2 := f2.tup D1 hq1
    refine ⟨_, rfl, _, _, _, _, rfl, rfl, SqT.of hq2, atI_nat (j := 3) rfl, _, _, rfl, rfl, .inr ⟨by omega, by omega⟩, _, rfl, _, _, _, _, rfl, rfl, SqT.of hq2, atI_nat (j := 6) rfl, _, _, rfl, rfl, .inr ⟨by omega, by omega⟩, _, _, rfl, rfl, ⟨by decide, by decide, by decide⟩, _, _, rfl, rfl, .inr ⟨by decide, by decide⟩, ?_⟩
    have r1 : r < 1000000000 := r1
    have m0 : r * den ≤ 1000000000 * 30 := Int.mul_le_mul (by omega) d1 (by omega) (by decide)
    have m1 : 0 ≤ r * den := Int.mul_nonneg (by omega) (by omega)
    have m2 : r * den * step ≤ 1000000000 * 30 * 30 := Int.mul_le_mul m0 s1 (by omega) (by decide)
    have m3 : 0 ≤ r * den * step := Int.mul_nonneg m1 (by omega)
    refine ⟨A, ns, n' + 1, r * den * step * 10 ^ Int.toNat 9, _, v4, v5, rfl, fun _ => rfl, ?_, ?_, f2 _ _ np nl hA, np, nl, lA, bA, D2, by omega, by omega, fr1.trans f2⟩
    · show 0 ≤ r * den * step * 1000000000
      omega
    · show r * den * step * 1000000000 ≤ _
      omega
  clear hv far0 far1 hA np nl lA bA D1 n10 n11 fr1 hq1
  rintro σ H1 ⟨A, ns, n', far, v3, v4, v5, rfl, hv, far0, far1, hA, np, nl, lA, bA, D1, n10, n11, fr1⟩
  have hq1 := fr1.tup D hq
  obtain rfl := hv rfl
  refine ⟨Am p l q n H 3 70, ?_, ?_⟩
  · refine ⟨_, rfl, _, rfl, _, rfl, _, _, _, _, rfl, rfl, SqT.of hq1, atI_nat (j := 6) rfl, _, rfl, p, l, n', _, rfl, D1, by omega, by omega, by decide, by decide, fun r H2 r0 r1 f2 D2 => ?_⟩
    refine ⟨_, _, rfl, rfl, .inl ⟨by omega, by omega⟩, _, _, rfl, rfl, (by show 1 ≤ sizeLine; decide), fun B nB => ?_⟩
    have sB := same_upd (o := .lst [.int (far + step * r)]) nB
    refine ⟨A, B, _, _, rfl, rfl, sB _ _ (f2 _ _ np nl hA), upd_same, (by rw [List.length_map]; exact Nat.le_trans (show ns.length + 1 ≤ 100 by omega) (by decide)), fun C nC => ?_⟩
    have sC := same_upd (o := .lst (ns.map V.int ++ [.int (far + step * r)])) nC
    have lne := (D2.same sB).lne nC
    have ss := sB.trans sC
    have m0 : step * r ≤ 30 * 90 := Int.mul_le_mul s1 (by omega) (by omega) (by decide)
    have m1 : 0 ≤ step * r := Int.mul_nonneg (by omega) (by omega)
    refine ⟨C, ns ++ [far + step * r], n' + 1, 0, _, v4, v5, rfl, fun z => ?_, by decide, by decide, ?_, lne.1, lne.2, ?_, fun x hx => ?_, D2.same ss, by omega, by omega, fr1.trans (f2.trans (Same.fr ss))⟩
    · exact absurd z (by decide)
    · rw [← cat_ints]
      exact upd_same
    · rw [List.length_append]
      show ns.length + 1 ≤ 70
      omega
    · rcases List.mem_append.mp hx with h | h
      · exact bA x h
      · rw [List.mem_singleton.mp h]
        omega
  clear hv far0 far1 hA np nl lA bA D1 n10 n11 fr1 hq1
  rintro σ H1 ⟨A, ns, n', far, v3, v4, v5, rfl, hv, far0, far1, hA, np, nl, lA, bA, D1, n10, n11, fr1⟩
  have hq1 := fr1.tup D hq
  refine ⟨Am p l q n H 4 80, ?_, ?_⟩
  · have fin : ∀ (ms : List Int) (B : Addr), H1 B = none → ms.length ≤ 5 → (∀ x ∈ ms, -1 ≤ x ∧ x ≤ 2000) → ∀ C, upd H1 B (.lst (ms.map V.int)) C = none → Am p l q n H 4 80 [some (.ref p), some (.ref q), some (.ref C), v3, v4, v5] (upd (upd H1 B (.lst (ms.map V.int))) C (.lst (ns.map V.int ++ ms.map V.int))) := by
      intro ms B nB lm bm C nC
      have sB := same_upd (o := .lst (ms.map V.int)) nB
      have sC := same_upd (o := .lst (ns.map V.int ++ ms.map V.int)) nC
      have lne := (D1.same sB).lne nC
      have ss := sB.trans sC
      refine ⟨C, ns ++ ms, n', 0, v3, v4, v5, rfl, fun z => absurd z (by decide), by decide, by decide, ?_, lne.1, lne.2, ?_, fun x hx => ?_, D1.same ss, by omega, by omega, fr1.trans (Same.fr ss)⟩
      · rw [← cat_ints]
        exact upd_same
      · rw [List.length_append]
        omega
      · rcases List.mem_append.mp hx with h | h
        · exact bA x h
        · have := bm x h
          omega
    refine ⟨_, rfl, _, rfl, _, _, _, _, rfl, rfl, SqT.of hq1, atI_nat (j := 7) rfl, rfl, _, rfl, ?_⟩
    cases u with
    | none =>
      refine iteF ⟨(by show 0 ≤ sizeLine; decide), fun B nB => ?_⟩
      refine ⟨A, B, _, _, rfl, rfl, (same_upd nB) _ _ hA, upd_same, (by rw [List.length_map]; exact Nat.le_trans (show ns.length + 0 ≤ 100 by omega) (by decide)), fun C nC => ?_⟩
      exact fin [] B nB (by decide) (fun x h => nomatch h) C nC
    | some v =>
      have := dk.u0 v rfl
      have := dk.u1 v rfl
      refine iteT ⟨_, rfl, _, _, _, _, rfl, rfl, SqT.of hq1, atI_nat (j := 7) rfl, _, _, rfl, rfl, _, rfl, _, _, _, _, rfl, rfl, SqT.of hq1, atI_nat (j := 7) rfl, _, rfl, _, _, _, _, rfl, rfl, SqT.of hq1, atI_nat (j := 7) rfl, _, _, rfl, rfl, (by show 3 ≤ sizeLine; decide), fun B nB => ?_⟩
      refine ⟨A, B, _, _, rfl, rfl, (same_upd nB) _ _ hA, upd_same, (by rw [List.length_map]; exact Nat.le_trans (show ns.length + 3 ≤ 100 by omega) (by decide)), fun C nC => ?_⟩
      refine fin [v - 1, v, v + 1] B nB (show 3 ≤ 5 by decide) (fun x h => ?_) C nC
      simp only [List.mem_cons, List.not_mem_nil, or_false] at h
      omega
  clear hv far0 far1 hA np nl lA bA D1 n10 n11 fr1 hq1
  rintro σ H1 ⟨A, ns, n', far, v3, v4, v5, rfl, hv, far0, far1, hA, np, nl, lA, bA, D1, n10, n11, fr1⟩
  have hq1 := fr1.tup D hq
  have nn0 := dk.n0
  have nn1 := dk.n1
  refine ⟨_, rfl, A, rfl, ⟨_, SqL.of hA⟩, for_list (K := K) (a := A) (xs := ns.map V.int) (fun j σ H' => Same H1 H' ∧ ∃ (w4 w5 : Option V), σ = [some (.ref p), some (.ref q), some (.ref A), v3, w4, w5]) ⟨Same.refl _, _, _, rfl⟩ (fun j σ H' _ h => SqL.of (h.1 _ _ hA)) ?_ ?_⟩
  · rintro j x σ H' hx ⟨s', w4, w5, rfl⟩
    obtain ⟨i, hi, rfl⟩ := List.mem_map.mp (List.mem_of_getElem? hx)
    obtain ⟨i0, i1⟩ := bA i hi
    have hq2 := s' _ _ hq1
    refine ⟨_, rfl, _, rfl, q, i, ka, kb, m, num, den, least, step, u, rfl, hq2, dk, fun tk => ?_, fun tk => ?_⟩
    · have small : (Gm m (num * i) den).natAbs.log2 < 1920 := by
        have := tk.1
        have e0 : 0 ≤ num * i := Int.mul_nonneg nn0 (by omega)
        have e1 : num * i ≤ 30 * 100000000000000000000000000000000 := Int.mul_le_mul nn1 i1 (by omega) (by decide)
        exact gm_small e0 (by omega) d0 d1
      refine ⟨_, rfl, _, rfl, q, i, ka, kb, m, num, den, least, step, u, rfl, hq2, dk, fun H2 s2 => ⟨fun _ => ?_, fun nt => absurd tk nt⟩⟩
      refine .inl ⟨_, rfl, small, _, rfl, .inl ⟨_, rfl, small, rfl, _, rfl, iteNP rfl ?_⟩⟩
      refine ⟨_, rfl, _, rfl, q, i, ka, kb, m, num, den, least, step, u, rfl, s2 _ _ hq2, dk, fun H3 b s3 hb => ?_⟩
      obtain rfl := hb.mpr tk
      exact ⟨_, rfl, rfl, rfl, _, rfl, iteNP rfl ⟨s'.trans (s2.trans s3), _, _, rfl⟩⟩
    · refine ⟨_, rfl, _, rfl, q, i, ka, kb, m, num, den, least, step, u, rfl, hq2, dk, fun H2 s2 => ⟨fun t => absurd t tk, fun _ => ?_⟩⟩
      refine .inr ⟨rfl, _, rfl, .inr ⟨rfl, rfl, _, rfl, iteNP rfl ?_⟩⟩
      refine ⟨_, rfl, _, rfl, q, i, ka, kb, m, num, den, least, step, u, rfl, s2 _ _ hq2, dk, fun H3 b s3 hb => ?_⟩
      obtain rfl : b = false := by
        cases b with
        | false => rfl
        | true => exact absurd (hb.mp rfl) tk
      exact ⟨_, rfl, rfl, rfl, _, rfl, iteNP rfl ⟨s'.trans (s2.trans s3), _, _, rfl⟩⟩
  · rintro σ H' ⟨s', w4, w5, rfl⟩
    exact k _ n' (fr1.trans (Same.fr s')) (D1.same s') n10 (by omega)
end
end Sm

set_option Elab.async false
set_option linter.all false
set_option maxRecDepth 100000
set_option maxHeartbeats 16000000
namespace Sm
open PySem PySem.Spec PyProof.Rows L2
open C8 (pss_cut tCut)
def upD : Option Int → PyData
  | none => .none
  | some v => .int v
def deskD (ka kb : Int) (m : Nat) (num den least step : Int) (u : Option Int) : PyData := .tuple [.int ka, .int kb, .int num, .int den, .str (hs m), .int least, .int step, upD u]
theorem desk_dq {K : PySem.W.Frag} {H : Hp} {q : Addr} {ka kb num den least step : Int} {m : Nat} {u : Option Int} (hq : H q = some (.tup (deskV ka kb m num den least step u))) : Dq K H (.ref q) (deskD ka kb m num den least step u) := by
  have z : Dq K H (upV u) (upD u) := by
    cases u with
    | none => exact .non
    | some v => exact .int v
  exact .tup hq (.cons (.int _) (.cons (.int _) (.cons (.int _) (.cons (.int _) (.cons (.str _) (.cons (.int _) (.cons (.int _) (.cons z .nil))))))))
theorem err_right {ka kb num den least step : Int} {m : Nat} {u : Option Int} (dk : Dk m num den least step u) (a0 : 0 ≤ ka) (a1 : ka ≤ 3) (b0 : 0 ≤ kb) (b1 : kb ≤ 3) (ab : ka ≠ kb) : errD (deskD ka kb m num den least step u) = none := by
  show err8 _ _ _ _ _ _ _ _ = none
  have h := dk.hm
  have e1 : inI (.int ka) 0 3 = true := by simp [inI, a0, a1]
  have e2 : inI (.int kb) 0 3 = true := by simp [inI, b0, b1]
  have e3 : eqI (.int ka) (.int kb) = false := by simp [eqI, ab]
  have e4 : inI (.int num) 0 30 = true := by simp [inI, dk.n0, dk.n1]
  have e5 : inI (.int den) 1 30 = true := by simp [inI, dk.d0, dk.d1]
  have e6 : okH (.str (hs m)) = true := by
    obtain rfl | rfl | rfl : m = 0 ∨ m = 1 ∨ m = 2 := by omega
    all_goals decide +kernel
  have e7 : inI (.int least) 1 30 = true := by simp [inI, dk.l0, dk.l1]
  have e8 : inI (.int step) 1 30 = true := by simp [inI, dk.s0, dk.s1]
  have e9 : isN (upD u) = true ∨ inI (upD u) (valI (.int least)) 1000 = true := by
    cases u with
    | none => exact .inl rfl
    | some v =>
      refine .inr ?_
      simp [upD, inI, valI, dk.u0 v rfl, dk.u1 v rfl]
  simp [err8, e1, e2, e3, e4, e5, e6, e7, e8, e9]
def errP : Option Str → PyData
  | none => .none
  | some s => .str s
theorem err_dq {K : PySem.W.Frag} {H : Hp} (o : Option Str) : Dq K H (errV o) (errP o) := by
  cases o with
  | none => exact .non
  | some s => exact .str s
theorem err_sml (d : PyData) : Sml 3 300 (errP (errD d)) := by
  unfold errD
  split
  · unfold err8
    repeat' split
    all_goals exact ⟨by decide +kernel, by decide +kernel, by decide +kernel⟩
  · exact ⟨by decide +kernel, by decide +kernel, by decide +kernel⟩
theorem Sml.fit {k n : Nat} {d : PyData} (s : Sml k n d) (hk : k ≤ 60) (hn : n ≤ 10000) : PyData.showable d = true ∧ d.depth ≤ 60 ∧ d.shown.length ≤ sizeLine := by
  have := s.dep
  have := s.len
  refine ⟨s.sh, by omega, ?_⟩
  rw [sizeLine_eq]
  omega
theorem Sml.up {d : PyData} (s : Sml 3 300 d) : Sml 9 9000 d := ⟨s.sh, by have := s.dep; omega, by have := s.len; omega⟩
def sp_law (K : PySem.W.Frag) : Sp := fun vs H Q _ => ∃ (a : Addr) (ns : List Int), vs = [.ref a] ∧ SqL K H a (ns.map V.int) ∧ ns.length ≤ 63 ∧ ∀ H', Q (.bl true) H'
section
variable {P : Program} {w : World} {K : PySem.W.Frag} {mg : Str → Option Value} {base : Heap}
abbrev s_law : Stmt := topS 22
abbrev N_law : List Str := ["_law_script", "_law_deck_here", "_law_turn", "_law_desk", "_law_value", "_law_kept", "_law_due"]
theorem sc_law : FnScope N_law ["_law_script"] (defScope s_law) := ⟨rfl, rfl, rfl, by decide +kernel, rfl, by decide +kernel, by decide +kernel⟩
theorem ok_lawG {f : Addr} {fd : FuncData} (T : Txt mg) (F : Fun K "law" "law" s_law f fd) (C_desk_error : Cal P w K mg base "desk_error" ["value"] 3 (sp_desk_error K)) (C_l_error : Cal P w K mg base "_law_error" ["_law_value"] 2 (sp_l_error K)) (C_l_draw : Cal P w K mg base "_law_draw" ["_law_deck_here", "_law_many"] 1 (sp_l_draw K)) (C_l_odd : Cal P w K mg base "_law_odd" ["_law_deck_here"] 3 (sp_l_odd K)) (C_l_bent : Cal P w K mg base "_law_bent" ["_law_deck_here", "_law_desk"] 4 (sp_l_bent K)) (C_l_amounts_right : Cal P w K mg base "_law_amounts_right" ["_law_deck_here", "_law_desk"] 3 (sp_l_amounts_right K)) (C_l_right_desk : Cal P w K mg base "_law_right_desk" ["_law_deck_here"] 3 (sp_l_right_desk K)) (C_l_deck : Cal P w K mg base "_law_deck" ["_law_script"] 1 (sp_l_deck K)) : FnG P w K mg base 5 f fd ["_law_script"] (sp_law K) := by
  obtain ⟨f_desk_error, fd_desk_error, G_desk_error, m_desk_error, k_desk_error, b_desk_error⟩ := C_desk_error
  obtain ⟨f_l_error, fd_l_error, G_l_error, m_l_error, k_l_error, b_l_error⟩ := C_l_error
  obtain ⟨f_l_draw, fd_l_draw, G_l_draw, m_l_draw, k_l_draw, b_l_draw⟩ := C_l_draw
  obtain ⟨f_l_odd, fd_l_odd, G_l_odd, m_l_odd, k_l_odd, b_l_odd⟩ := C_l_odd
  obtain ⟨f_l_bent, fd_l_bent, G_l_bent, m_l_bent, k_l_bent, b_l_bent⟩ := C_l_bent
  obtain ⟨f_l_amounts_right, fd_l_amounts_right, G_l_amounts_right, m_l_amounts_right, k_l_amounts_right, b_l_amounts_right⟩ := C_l_amounts_right
  obtain ⟨f_l_right_desk, fd_l_right_desk, G_l_right_desk, m_l_right_desk, k_l_right_desk, b_l_right_desk⟩ := C_l_right_desk
  obtain ⟨f_l_deck, fd_l_deck, G_l_deck, m_l_deck, k_l_deck, b_l_deck⟩ := C_l_deck
  refine FnG.body F sc_law (fun vs H Q E h => ?_) (fun cdv A outer s H vs Q E gu hr h => ?_)
  · obtain ⟨a, ns, rfl, _⟩ := h
    rfl
  obtain ⟨a, ns, rfl, hS, hlen, kk⟩ := h
  refine ⟨_, (pss_cons (ps_set (i := 1) sc_law.nd rfl (Or.inl rfl) (pe_call G_l_deck (hr.mono (by decide)) (by rfl) m_l_deck k_l_deck b_l_deck .nil pass0 (pa_cons (pv 0) pa_nil)))
    (pss_cons (ps_for PassesOwn.never rfl (pi_range1 (by rfl) T.n_range (pa_cons pe_int pa_nil)) (pg_name (i := 2) sc_law.nd rfl (Or.inl rfl))
      (pss_cons (ps_set (i := 3) sc_law.nd rfl (Or.inl rfl) (pe_call G_l_right_desk (hr.mono (by decide)) (by rfl) m_l_right_desk k_l_right_desk b_l_right_desk .nil pass0 (pa_cons (pv 1) pa_nil)))
    (pss_cons (ps_if (PW.pt (pw_or (pt_cmpR op_notN (pe_call G_desk_error (hr.mono (by decide)) (by rfl) m_desk_error k_desk_error b_desk_error .nil pass0 (pa_cons (pv 3) pa_nil)) pe_non (nomark _)) (pw_or1 (pt_not (pt_val (pe_call G_l_amounts_right (hr.mono (by decide)) (by rfl) m_l_amounts_right k_l_amounts_right b_l_amounts_right .nil pass0 (pa_cons (pv 1) (pa_cons (pv 3) pa_nil)))))))) (pss_one (ps_ret pe_bl)) pss_nil)
    (pss_cut (ps_set (i := 4) sc_law.nd rfl (Or.inl rfl) (pe_ifExp (pt_cmpR op_eq (pe_call G_l_draw (hr.mono (by decide)) (by rfl) m_l_draw k_l_draw b_l_draw .nil pass0 (pa_cons (pv 1) (pa_cons pe_int pa_nil))) pe_int (nomark _)) (pe_call G_l_odd (hr.mono (by decide)) (by rfl) m_l_odd k_l_odd b_l_odd .nil pass0 (pa_cons (pv 1) pa_nil)) (pe_call G_l_bent (hr.mono (by decide)) (by rfl) m_l_bent k_l_bent b_l_bent .nil pass0 (pa_cons (pv 1) (pa_cons (pv 3) pa_nil)))))
    (pss_cons (ps_par (i := 5) (j := 6) (by rfl) sc_law.nd rfl rfl (by decide) rfl rfl (pa_cons (pe_callB (call_reprQ gu ⟨_, hr⟩) (by rfl) T.n_repr (by decide +kernel) (pa_cons (pv 4) pa_nil)) (pa_cons (pe_callB (call_reprQ gu ⟨_, hr⟩) (by rfl) T.n_repr (by decide +kernel) (pa_cons (pe_call G_l_error (hr.mono (by decide)) (by rfl) m_l_error k_l_error b_l_error .nil pass0 (pa_cons (pv 4) pa_nil)) pa_nil)) pa_nil)) (by rfl))
    (pss_one (ps_if (PW.pt (pw_or (pt_cmpR op_ne (pe_callB (call_reprQ gu ⟨_, hr⟩) (by rfl) T.n_repr (by decide +kernel) (pa_cons (pe_call G_desk_error (hr.mono (by decide)) (by rfl) m_desk_error k_desk_error b_desk_error .nil pass0 (pa_cons (pv 4) pa_nil)) pa_nil)) (pv 6) (nomark _)) (pw_or (pt_cmpR op_ne (pe_callB (call_reprQ gu ⟨_, hr⟩) (by rfl) T.n_repr (by decide +kernel) (pa_cons (pe_call G_desk_error (hr.mono (by decide)) (by rfl) m_desk_error k_desk_error b_desk_error .nil pass0 (pa_cons (pv 4) pa_nil)) pa_nil)) (pv 6) (nomark _)) (pw_or1 (pt_cmpR op_ne (pe_callB (call_reprQ gu ⟨_, hr⟩) (by rfl) T.n_repr (by decide +kernel) (pa_cons (pv 4) pa_nil)) (pv 5) (nomark _)))))) (pss_one (ps_ret pe_bl)) pss_nil)))))))
    (pss_one (ps_ret pe_bl)))), ?_⟩
  refine ⟨_, rfl, a, ns, rfl, hS, hlen, fun H1 p l s1 D1 => ?_⟩
  refine ⟨30, rfl, (by decide), (by decide), for_range (lo := 0) (n := 30) (fun i σ H' => ∃ (n : Int) (v2 v3 v4 v5 v6 : Option V), σ = [some (.ref a), some (.ref p), v2, v3, v4, v5, v6] ∧ Deck H' p l n ∧ 0 ≤ n ∧ n ≤ 100 * (i : Int))
    ⟨0, none, none, none, none, none, rfl, D1, by omega, by omega⟩ ?_ ?_⟩
  · rintro i σ H2 hi ⟨n, v2, v3, v4, v5, v6, rfl, D2, n0, n1⟩
    refine ⟨_, rfl, p, l, n, rfl, D2, n0, by omega, fun H3 q ka kb m num den least step u n3 f3 D3 m0 m1 hq a0 a1 b0 b1 ab dk => ?_⟩
    refine ⟨_, rfl, .ref q, _, rfl, desk_dq hq, fun H4 s4 => ⟨rfl, _, rfl, ?_⟩⟩
    rw [err_right dk a0 a1 b0 b1 ab]
    refine iteNP rfl ?_
    have hq4 := s4 _ _ hq
    refine ⟨_, rfl, _, rfl, p, l, q, n3, ka, kb, m, num, den, least, step, u, rfl, D3.same s4, by omega, by omega, hq4, dk, fun H5 n5 f5 D5 m2 m3 => ⟨_, rfl, iteF ?_⟩⟩
    have hq5 := f5.tup (D3.same s4) hq4
    refine ⟨fun σ H' => ∃ (x : V) (d : PyData) (n7 : Int), σ = [some (.ref a), some (.ref p), some (.int (0 + (i : Int))), some (.ref q), some x, v5, v6] ∧ Deck H' p l n7 ∧ 0 ≤ n7 ∧ n7 ≤ n5 + 30 ∧ Dq K H' x d ∧ Sml 9 9000 d, ?_, ?_⟩
    · refine ⟨_, rfl, p, l, n5, 8, rfl, D5, by omega, by omega, by decide, by decide, fun r H6 r0 r1 f6 D6 => ⟨rfl, _, rfl, ite3 (fun e => ?_) (fun e => ?_)⟩⟩
      · exact ⟨_, rfl, p, l, n5 + 1, rfl, D6, by omega, by omega, fun H7 x d f7 D7 dn sm => ⟨x, d, _, rfl, D7, by omega, by omega, dn H7 fun b o _ h => h, sm.up⟩⟩
      · exact ⟨_, rfl, _, rfl, p, l, q, n5 + 1, ka, kb, m, num, den, least, step, u, rfl, D6, by omega, by omega, f6.tup D5 hq5, dk, a0, a1, b0, b1, fun H7 x d n7 f7 D7 g0 g1 dq sm => ⟨x, d, _, rfl, D7, by omega, by omega, dq, sm⟩⟩
    rintro σ H7 ⟨x, d, n7, rfl, D7, g0, g1, dq, sm⟩
    obtain ⟨c1, c2, c3⟩ := sm.fit (by decide) (by decide)
    obtain ⟨e1, e2, e3⟩ := (err_sml d).fit (by decide) (by decide)
    refine ⟨_, rfl, x, d, rfl, dq, c1, c2, c3, _, rfl, x, d, rfl, dq, fun H8 s8 => ⟨_, _, rfl, err_dq _, e1, e2, e3, _, _, rfl, ?_⟩⟩
    refine ⟨_, rfl, x, d, rfl, dq.same s8, fun H9 s9 => ⟨_, _, rfl, err_dq _, e1, e2, e3, _, rfl, rfl, _, rfl, iteNP rfl ?_⟩⟩
    refine ⟨_, rfl, x, d, rfl, dq.same (s8.trans s9), fun H10 s10 => ⟨_, _, rfl, err_dq _, e1, e2, e3, _, rfl, rfl, _, rfl, iteNP rfl ?_⟩⟩
    have ss := s8.trans (s9.trans s10)
    refine ⟨_, rfl, x, d, rfl, dq.same ss, c1, c2, c3, _, rfl, rfl, _, rfl, iteNP rfl ?_⟩
    exact ⟨n7, _, _, _, _, _, rfl, D7.same ss, g0, by omega⟩
  · rintro σ H2 ⟨n, v2, v3, v4, v5, v6, rfl, D2, n0, n1⟩
    exact kk _
end
end Sm

set_option Elab.async false
set_option linter.all false
set_option maxRecDepth 100000
set_option maxHeartbeats 16000000
namespace Sm
open PySem PySem.Spec PyProof.Rows L2
theorem all_mk {l : PySem.W.OpenLaw} {w : World} {K : PySem.W.Frag} {h : Heap} {mg : Str → Option Value} {fa : Addr} (X : K.In h) (G : h.Ns mainGlobals mg) (hfa : mg "law" = some (.ref fa))
    {F_is_whole : Addr} {od_is_whole an_is_whole : Option Addr} {sl_is_whole : Array (Option Value)} {oc_is_whole kV_is_whole dc_is_whole pm_is_whole cd_is_whole ct_is_whole : Value} (a_is_whole : PySem.W.nsIn K mainGlobals "is_whole" = some (some (.ref F_is_whole))) (l_is_whole : K.lookup F_is_whole = some ⟨oc_is_whole, od_is_whole, .func (PySem.W.fnOf "is_whole" "is_whole" (defArgs s_is_whole) (defBody s_is_whole) (defScope s_is_whole) .none kV_is_whole dc_is_whole pm_is_whole an_is_whole cd_is_whole ct_is_whole), sl_is_whole⟩) (c_is_whole : PySem.W.codeIn K cd_is_whole "is_whole" = true) (k_is_whole : PySem.W.keepIn K (.ref F_is_whole) = true)
    {F_is_within : Addr} {od_is_within an_is_within : Option Addr} {sl_is_within : Array (Option Value)} {oc_is_within kV_is_within dc_is_within pm_is_within cd_is_within ct_is_within : Value} (a_is_within : PySem.W.nsIn K mainGlobals "is_within" = some (some (.ref F_is_within))) (l_is_within : K.lookup F_is_within = some ⟨oc_is_within, od_is_within, .func (PySem.W.fnOf "is_within" "is_within" (defArgs s_is_within) (defBody s_is_within) (defScope s_is_within) .none kV_is_within dc_is_within pm_is_within an_is_within cd_is_within ct_is_within), sl_is_within⟩) (c_is_within : PySem.W.codeIn K cd_is_within "is_within" = true) (k_is_within : PySem.W.keepIn K (.ref F_is_within) = true)
    {F_desk_error : Addr} {od_desk_error an_desk_error : Option Addr} {sl_desk_error : Array (Option Value)} {oc_desk_error kV_desk_error dc_desk_error pm_desk_error cd_desk_error ct_desk_error : Value} (a_desk_error : PySem.W.nsIn K mainGlobals "desk_error" = some (some (.ref F_desk_error))) (l_desk_error : K.lookup F_desk_error = some ⟨oc_desk_error, od_desk_error, .func (PySem.W.fnOf "desk_error" "desk_error" (defArgs s_desk_error) (defBody s_desk_error) (defScope s_desk_error) .none kV_desk_error dc_desk_error pm_desk_error an_desk_error cd_desk_error ct_desk_error), sl_desk_error⟩) (c_desk_error : PySem.W.codeIn K cd_desk_error "desk_error" = true) (k_desk_error : PySem.W.keepIn K (.ref F_desk_error) = true)
    {F_takes : Addr} {od_takes an_takes : Option Addr} {sl_takes : Array (Option Value)} {oc_takes kV_takes dc_takes pm_takes cd_takes ct_takes : Value} (a_takes : PySem.W.nsIn K mainGlobals "takes" = some (some (.ref F_takes))) (l_takes : K.lookup F_takes = some ⟨oc_takes, od_takes, .func (PySem.W.fnOf "takes" "takes" (defArgs s_takes) (defBody s_takes) (defScope s_takes) .none kV_takes dc_takes pm_takes an_takes cd_takes ct_takes), sl_takes⟩) (c_takes : PySem.W.codeIn K cd_takes "takes" = true) (k_takes : PySem.W.keepIn K (.ref F_takes) = true)
    {F_gives : Addr} {od_gives an_gives : Option Addr} {sl_gives : Array (Option Value)} {oc_gives kV_gives dc_gives pm_gives cd_gives ct_gives : Value} (a_gives : PySem.W.nsIn K mainGlobals "gives" = some (some (.ref F_gives))) (l_gives : K.lookup F_gives = some ⟨oc_gives, od_gives, .func (PySem.W.fnOf "gives" "gives" (defArgs s_gives) (defBody s_gives) (defScope s_gives) .none kV_gives dc_gives pm_gives an_gives cd_gives ct_gives), sl_gives⟩) (c_gives : PySem.W.codeIn K cd_gives "gives" = true) (k_gives : PySem.W.keepIn K (.ref F_gives) = true)
    {F_l_deck : Addr} {od_l_deck an_l_deck : Option Addr} {sl_l_deck : Array (Option Value)} {oc_l_deck kV_l_deck dc_l_deck pm_l_deck cd_l_deck ct_l_deck : Value} (a_l_deck : PySem.W.nsIn K mainGlobals "_law_deck" = some (some (.ref F_l_deck))) (l_l_deck : K.lookup F_l_deck = some ⟨oc_l_deck, od_l_deck, .func (PySem.W.fnOf "_law_deck" "_law_deck" (defArgs s_l_deck) (defBody s_l_deck) (defScope s_l_deck) .none kV_l_deck dc_l_deck pm_l_deck an_l_deck cd_l_deck ct_l_deck), sl_l_deck⟩) (c_l_deck : PySem.W.codeIn K cd_l_deck "_law_deck" = true) (k_l_deck : PySem.W.keepIn K (.ref F_l_deck) = true)
    {F_l_draw : Addr} {od_l_draw an_l_draw : Option Addr} {sl_l_draw : Array (Option Value)} {oc_l_draw kV_l_draw dc_l_draw pm_l_draw cd_l_draw ct_l_draw : Value} (a_l_draw : PySem.W.nsIn K mainGlobals "_law_draw" = some (some (.ref F_l_draw))) (l_l_draw : K.lookup F_l_draw = some ⟨oc_l_draw, od_l_draw, .func (PySem.W.fnOf "_law_draw" "_law_draw" (defArgs s_l_draw) (defBody s_l_draw) (defScope s_l_draw) .none kV_l_draw dc_l_draw pm_l_draw an_l_draw cd_l_draw ct_l_draw), sl_l_draw⟩) (c_l_draw : PySem.W.codeIn K cd_l_draw "_law_draw" = true) (k_l_draw : PySem.W.keepIn K (.ref F_l_draw) = true)
    {F_l_one : Addr} {od_l_one an_l_one : Option Addr} {sl_l_one : Array (Option Value)} {oc_l_one kV_l_one dc_l_one pm_l_one cd_l_one ct_l_one : Value} (a_l_one : PySem.W.nsIn K mainGlobals "_law_one" = some (some (.ref F_l_one))) (l_l_one : K.lookup F_l_one = some ⟨oc_l_one, od_l_one, .func (PySem.W.fnOf "_law_one" "_law_one" (defArgs s_l_one) (defBody s_l_one) (defScope s_l_one) .none kV_l_one dc_l_one pm_l_one an_l_one cd_l_one ct_l_one), sl_l_one⟩) (c_l_one : PySem.W.codeIn K cd_l_one "_law_one" = true) (k_l_one : PySem.W.keepIn K (.ref F_l_one) = true)
    {F_l_is_between : Addr} {od_l_is_between an_l_is_between : Option Addr} {sl_l_is_between : Array (Option Value)} {oc_l_is_between kV_l_is_between dc_l_is_between pm_l_is_between cd_l_is_between ct_l_is_between : Value} (a_l_is_between : PySem.W.nsIn K mainGlobals "_law_is_between" = some (some (.ref F_l_is_between))) (l_l_is_between : K.lookup F_l_is_between = some ⟨oc_l_is_between, od_l_is_between, .func (PySem.W.fnOf "_law_is_between" "_law_is_between" (defArgs s_l_is_between) (defBody s_l_is_between) (defScope s_l_is_between) .none kV_l_is_between dc_l_is_between pm_l_is_between an_l_is_between cd_l_is_between ct_l_is_between), sl_l_is_between⟩) (c_l_is_between : PySem.W.codeIn K cd_l_is_between "_law_is_between" = true) (k_l_is_between : PySem.W.keepIn K (.ref F_l_is_between) = true)
    {F_l_gives : Addr} {od_l_gives an_l_gives : Option Addr} {sl_l_gives : Array (Option Value)} {oc_l_gives kV_l_gives dc_l_gives pm_l_gives cd_l_gives ct_l_gives : Value} (a_l_gives : PySem.W.nsIn K mainGlobals "_law_gives" = some (some (.ref F_l_gives))) (l_l_gives : K.lookup F_l_gives = some ⟨oc_l_gives, od_l_gives, .func (PySem.W.fnOf "_law_gives" "_law_gives" (defArgs s_l_gives) (defBody s_l_gives) (defScope s_l_gives) .none kV_l_gives dc_l_gives pm_l_gives an_l_gives cd_l_gives ct_l_gives), sl_l_gives⟩) (c_l_gives : PySem.W.codeIn K cd_l_gives "_law_gives" = true) (k_l_gives : PySem.W.keepIn K (.ref F_l_gives) = true)
    {F_l_odd : Addr} {od_l_odd an_l_odd : Option Addr} {sl_l_odd : Array (Option Value)} {oc_l_odd kV_l_odd dc_l_odd pm_l_odd cd_l_odd ct_l_odd : Value} (a_l_odd : PySem.W.nsIn K mainGlobals "_law_odd" = some (some (.ref F_l_odd))) (l_l_odd : K.lookup F_l_odd = some ⟨oc_l_odd, od_l_odd, .func (PySem.W.fnOf "_law_odd" "_law_odd" (defArgs s_l_odd) (defBody s_l_odd) (defScope s_l_odd) .none kV_l_odd dc_l_odd pm_l_odd an_l_odd cd_l_odd ct_l_odd), sl_l_odd⟩) (c_l_odd : PySem.W.codeIn K cd_l_odd "_law_odd" = true) (k_l_odd : PySem.W.keepIn K (.ref F_l_odd) = true)
    {F_l_right_desk : Addr} {od_l_right_desk an_l_right_desk : Option Addr} {sl_l_right_desk : Array (Option Value)} {oc_l_right_desk kV_l_right_desk dc_l_right_desk pm_l_right_desk cd_l_right_desk ct_l_right_desk : Value} (a_l_right_desk : PySem.W.nsIn K mainGlobals "_law_right_desk" = some (some (.ref F_l_right_desk))) (l_l_right_desk : K.lookup F_l_right_desk = some ⟨oc_l_right_desk, od_l_right_desk, .func (PySem.W.fnOf "_law_right_desk" "_law_right_desk" (defArgs s_l_right_desk) (defBody s_l_right_desk) (defScope s_l_right_desk) .none kV_l_right_desk dc_l_right_desk pm_l_right_desk an_l_right_desk cd_l_right_desk ct_l_right_desk), sl_l_right_desk⟩) (c_l_right_desk : PySem.W.codeIn K cd_l_right_desk "_law_right_desk" = true) (k_l_right_desk : PySem.W.keepIn K (.ref F_l_right_desk) = true)
    {F_l_error : Addr} {od_l_error an_l_error : Option Addr} {sl_l_error : Array (Option Value)} {oc_l_error kV_l_error dc_l_error pm_l_error cd_l_error ct_l_error : Value} (a_l_error : PySem.W.nsIn K mainGlobals "_law_error" = some (some (.ref F_l_error))) (l_l_error : K.lookup F_l_error = some ⟨oc_l_error, od_l_error, .func (PySem.W.fnOf "_law_error" "_law_error" (defArgs s_l_error) (defBody s_l_error) (defScope s_l_error) .none kV_l_error dc_l_error pm_l_error an_l_error cd_l_error ct_l_error), sl_l_error⟩) (c_l_error : PySem.W.codeIn K cd_l_error "_law_error" = true) (k_l_error : PySem.W.keepIn K (.ref F_l_error) = true)
    {F_l_bent : Addr} {od_l_bent an_l_bent : Option Addr} {sl_l_bent : Array (Option Value)} {oc_l_bent kV_l_bent dc_l_bent pm_l_bent cd_l_bent ct_l_bent : Value} (a_l_bent : PySem.W.nsIn K mainGlobals "_law_bent" = some (some (.ref F_l_bent))) (l_l_bent : K.lookup F_l_bent = some ⟨oc_l_bent, od_l_bent, .func (PySem.W.fnOf "_law_bent" "_law_bent" (defArgs s_l_bent) (defBody s_l_bent) (defScope s_l_bent) .none kV_l_bent dc_l_bent pm_l_bent an_l_bent cd_l_bent ct_l_bent), sl_l_bent⟩) (c_l_bent : PySem.W.codeIn K cd_l_bent "_law_bent" = true) (k_l_bent : PySem.W.keepIn K (.ref F_l_bent) = true)
    {F_l_amounts_right : Addr} {od_l_amounts_right an_l_amounts_right : Option Addr} {sl_l_amounts_right : Array (Option Value)} {oc_l_amounts_right kV_l_amounts_right dc_l_amounts_right pm_l_amounts_right cd_l_amounts_right ct_l_amounts_right : Value} (a_l_amounts_right : PySem.W.nsIn K mainGlobals "_law_amounts_right" = some (some (.ref F_l_amounts_right))) (l_l_amounts_right : K.lookup F_l_amounts_right = some ⟨oc_l_amounts_right, od_l_amounts_right, .func (PySem.W.fnOf "_law_amounts_right" "_law_amounts_right" (defArgs s_l_amounts_right) (defBody s_l_amounts_right) (defScope s_l_amounts_right) .none kV_l_amounts_right dc_l_amounts_right pm_l_amounts_right an_l_amounts_right cd_l_amounts_right ct_l_amounts_right), sl_l_amounts_right⟩) (c_l_amounts_right : PySem.W.codeIn K cd_l_amounts_right "_law_amounts_right" = true) (k_l_amounts_right : PySem.W.keepIn K (.ref F_l_amounts_right) = true)
    {F_law : Addr} {od_law an_law : Option Addr} {sl_law : Array (Option Value)} {oc_law kV_law dc_law pm_law cd_law ct_law : Value} (a_law : PySem.W.nsIn K mainGlobals "law" = some (some (.ref F_law))) (l_law : K.lookup F_law = some ⟨oc_law, od_law, .func (PySem.W.fnOf "law" "law" (defArgs s_law) (defBody s_law) (defScope s_law) .none kV_law dc_law pm_law an_law cd_law ct_law), sl_law⟩) (c_law : PySem.W.codeIn K cd_law "law" = true) (k_law : PySem.W.keepIn K (.ref F_law) = true)
    (z_abs : PySem.W.nsIn K mainGlobals "abs" = some none)
    (z_bool : PySem.W.nsIn K mainGlobals "bool" = some none)
    (z_int : PySem.W.nsIn K mainGlobals "int" = some none)
    (z_isinstance : PySem.W.nsIn K mainGlobals "isinstance" = some none)
    (z_len : PySem.W.nsIn K mainGlobals "len" = some none)
    (z_list : PySem.W.nsIn K mainGlobals "list" = some none)
    (z_range : PySem.W.nsIn K mainGlobals "range" = some none)
    (z_repr : PySem.W.nsIn K mainGlobals "repr" = some none)
    (z_str : PySem.W.nsIn K mainGlobals "str" = some none)
    (z_tuple : PySem.W.nsIn K mainGlobals "tuple" = some none)
    {t_MAX_KINDS : Tok} (g_MAX_KINDS : PySem.W.nsIn K mainGlobals "MAX_KINDS" = some (some (.int 4 t_MAX_KINDS)))
    {t_MAX_AMOUNT : Tok} (g_MAX_AMOUNT : PySem.W.nsIn K mainGlobals "MAX_AMOUNT" = some (some (.int 30 t_MAX_AMOUNT)))
    {t_MAX_RATE : Tok} (g_MAX_RATE : PySem.W.nsIn K mainGlobals "MAX_RATE" = some (some (.int 30 t_MAX_RATE)))
    {t_MAX_MOST : Tok} (g_MAX_MOST : PySem.W.nsIn K mainGlobals "MAX_MOST" = some (some (.int 1000 t_MAX_MOST))) :
    ∃ fd : FuncData, (∀ (s : Shared) (v : Value), BindsTo s fd ⟨[v], []⟩ [("_law_script", v)]) ∧ ∀ base : Heap, K.In base → base.Ns mainGlobals mg → FnG l.prog w K mg base 5 fa fd ["_law_script"] (sp_law K) := by
  have e := hfa.symm.trans (PySem.W.mg_of X G a_law)
  cases e
  have T : Txt mg := ⟨PySem.W.mg_none_of X G z_abs, PySem.W.mg_none_of X G z_bool, PySem.W.mg_none_of X G z_int, PySem.W.mg_none_of X G z_isinstance, PySem.W.mg_none_of X G z_len, PySem.W.mg_none_of X G z_list, PySem.W.mg_none_of X G z_range, PySem.W.mg_none_of X G z_repr, PySem.W.mg_none_of X G z_str, PySem.W.mg_none_of X G z_tuple, ⟨_, PySem.W.mg_of X G g_MAX_KINDS⟩, ⟨_, PySem.W.mg_of X G g_MAX_AMOUNT⟩, ⟨_, PySem.W.mg_of X G g_MAX_RATE⟩, ⟨_, PySem.W.mg_of X G g_MAX_MOST⟩⟩
  have D_is_whole : Df K mg "is_whole" s_is_whole ["value"] := ⟨_, _, fun_mk (st := s_is_whole) l_is_whole c_is_whole k_is_whole, PySem.W.mg_of X G a_is_whole, (fun_mk (st := s_is_whole) l_is_whole c_is_whole k_is_whole).binds (ps := ["value"]) fun _ _ _ _ _ _ us hl => match us, hl with | [_], _ => rfl⟩
  have D_is_within : Df K mg "is_within" s_is_within ["value", "low", "high"] := ⟨_, _, fun_mk (st := s_is_within) l_is_within c_is_within k_is_within, PySem.W.mg_of X G a_is_within, (fun_mk (st := s_is_within) l_is_within c_is_within k_is_within).binds (ps := ["value", "low", "high"]) fun _ _ _ _ _ _ us hl => match us, hl with | [_, _, _], _ => rfl⟩
  have D_desk_error : Df K mg "desk_error" s_desk_error ["value"] := ⟨_, _, fun_mk (st := s_desk_error) l_desk_error c_desk_error k_desk_error, PySem.W.mg_of X G a_desk_error, (fun_mk (st := s_desk_error) l_desk_error c_desk_error k_desk_error).binds (ps := ["value"]) fun _ _ _ _ _ _ us hl => match us, hl with | [_], _ => rfl⟩
  have D_takes : Df K mg "takes" s_takes ["desk", "x"] := ⟨_, _, fun_mk (st := s_takes) l_takes c_takes k_takes, PySem.W.mg_of X G a_takes, (fun_mk (st := s_takes) l_takes c_takes k_takes).binds (ps := ["desk", "x"]) fun _ _ _ _ _ _ us hl => match us, hl with | [_, _], _ => rfl⟩
  have D_gives : Df K mg "gives" s_gives ["desk", "x"] := ⟨_, _, fun_mk (st := s_gives) l_gives c_gives k_gives, PySem.W.mg_of X G a_gives, (fun_mk (st := s_gives) l_gives c_gives k_gives).binds (ps := ["desk", "x"]) fun _ _ _ _ _ _ us hl => match us, hl with | [_, _], _ => rfl⟩
  have D_l_deck : Df K mg "_law_deck" s_l_deck ["_law_script"] := ⟨_, _, fun_mk (st := s_l_deck) l_l_deck c_l_deck k_l_deck, PySem.W.mg_of X G a_l_deck, (fun_mk (st := s_l_deck) l_l_deck c_l_deck k_l_deck).binds (ps := ["_law_script"]) fun _ _ _ _ _ _ us hl => match us, hl with | [_], _ => rfl⟩
  have D_l_draw : Df K mg "_law_draw" s_l_draw ["_law_deck_here", "_law_many"] := ⟨_, _, fun_mk (st := s_l_draw) l_l_draw c_l_draw k_l_draw, PySem.W.mg_of X G a_l_draw, (fun_mk (st := s_l_draw) l_l_draw c_l_draw k_l_draw).binds (ps := ["_law_deck_here", "_law_many"]) fun _ _ _ _ _ _ us hl => match us, hl with | [_, _], _ => rfl⟩
  have D_l_one : Df K mg "_law_one" s_l_one ["_law_deck_here", "_law_items"] := ⟨_, _, fun_mk (st := s_l_one) l_l_one c_l_one k_l_one, PySem.W.mg_of X G a_l_one, (fun_mk (st := s_l_one) l_l_one c_l_one k_l_one).binds (ps := ["_law_deck_here", "_law_items"]) fun _ _ _ _ _ _ us hl => match us, hl with | [_, _], _ => rfl⟩
  have D_l_is_between : Df K mg "_law_is_between" s_l_is_between ["_law_value", "_law_low", "_law_high"] := ⟨_, _, fun_mk (st := s_l_is_between) l_l_is_between c_l_is_between k_l_is_between, PySem.W.mg_of X G a_l_is_between, (fun_mk (st := s_l_is_between) l_l_is_between c_l_is_between k_l_is_between).binds (ps := ["_law_value", "_law_low", "_law_high"]) fun _ _ _ _ _ _ us hl => match us, hl with | [_, _, _], _ => rfl⟩
  have D_l_gives : Df K mg "_law_gives" s_l_gives ["_law_desk", "_law_x"] := ⟨_, _, fun_mk (st := s_l_gives) l_l_gives c_l_gives k_l_gives, PySem.W.mg_of X G a_l_gives, (fun_mk (st := s_l_gives) l_l_gives c_l_gives k_l_gives).binds (ps := ["_law_desk", "_law_x"]) fun _ _ _ _ _ _ us hl => match us, hl with | [_, _], _ => rfl⟩
  have D_l_odd : Df K mg "_law_odd" s_l_odd ["_law_deck_here"] := ⟨_, _, fun_mk (st := s_l_odd) l_l_odd c_l_odd k_l_odd, PySem.W.mg_of X G a_l_odd, (fun_mk (st := s_l_odd) l_l_odd c_l_odd k_l_odd).binds (ps := ["_law_deck_here"]) fun _ _ _ _ _ _ us hl => match us, hl with | [_], _ => rfl⟩
  have D_l_right_desk : Df K mg "_law_right_desk" s_l_right_desk ["_law_deck_here"] := ⟨_, _, fun_mk (st := s_l_right_desk) l_l_right_desk c_l_right_desk k_l_right_desk, PySem.W.mg_of X G a_l_right_desk, (fun_mk (st := s_l_right_desk) l_l_right_desk c_l_right_desk k_l_right_desk).binds (ps := ["_law_deck_here"]) fun _ _ _ _ _ _ us hl => match us, hl with | [_], _ => rfl⟩
  have D_l_error : Df K mg "_law_error" s_l_error ["_law_value"] := ⟨_, _, fun_mk (st := s_l_error) l_l_error c_l_error k_l_error, PySem.W.mg_of X G a_l_error, (fun_mk (st := s_l_error) l_l_error c_l_error k_l_error).binds (ps := ["_law_value"]) fun _ _ _ _ _ _ us hl => match us, hl with | [_], _ => rfl⟩
  have D_l_bent : Df K mg "_law_bent" s_l_bent ["_law_deck_here", "_law_desk"] := ⟨_, _, fun_mk (st := s_l_bent) l_l_bent c_l_bent k_l_bent, PySem.W.mg_of X G a_l_bent, (fun_mk (st := s_l_bent) l_l_bent c_l_bent k_l_bent).binds (ps := ["_law_deck_here", "_law_desk"]) fun _ _ _ _ _ _ us hl => match us, hl with | [_, _], _ => rfl⟩
  have D_l_amounts_right : Df K mg "_law_amounts_right" s_l_amounts_right ["_law_deck_here", "_law_desk"] := ⟨_, _, fun_mk (st := s_l_amounts_right) l_l_amounts_right c_l_amounts_right k_l_amounts_right, PySem.W.mg_of X G a_l_amounts_right, (fun_mk (st := s_l_amounts_right) l_l_amounts_right c_l_amounts_right k_l_amounts_right).binds (ps := ["_law_deck_here", "_law_desk"]) fun _ _ _ _ _ _ us hl => match us, hl with | [_, _], _ => rfl⟩
  have D_law : Df K mg "law" s_law ["_law_script"] := ⟨_, _, fun_mk (st := s_law) l_law c_law k_law, PySem.W.mg_of X G a_law, (fun_mk (st := s_law) l_law c_law k_law).binds (ps := ["_law_script"]) fun _ _ _ _ _ _ us hl => match us, hl with | [_], _ => rfl⟩
  refine ⟨PySem.W.fnOf "law" "law" (defArgs s_law) (defBody s_law) (defScope s_law) .none kV_law dc_law pm_law an_law cd_law ct_law, fun s v => .of_eq rfl, fun base _ _ => ?_⟩
  have C_is_whole : Cal l.prog w K mg base "is_whole" ["value"] 1 (sp_is_whole K) := ok_is_whole T D_is_whole
  have C_takes : Cal l.prog w K mg base "takes" ["desk", "x"] 1 (sp_takes K) := ok_takes T D_takes
  have C_l_deck : Cal l.prog w K mg base "_law_deck" ["_law_script"] 1 (sp_l_deck K) := ok_l_deck T D_l_deck
  have C_l_draw : Cal l.prog w K mg base "_law_draw" ["_law_deck_here", "_law_many"] 1 (sp_l_draw K) := ok_l_draw T D_l_draw
  have C_l_is_between : Cal l.prog w K mg base "_law_is_between" ["_law_value", "_law_low", "_law_high"] 1 (sp_l_is_between K) := ok_l_is_between T D_l_is_between
  have C_l_gives : Cal l.prog w K mg base "_law_gives" ["_law_desk", "_law_x"] 1 (sp_l_gives K) := ok_l_gives T D_l_gives
  have C_is_within : Cal l.prog w K mg base "is_within" ["value", "low", "high"] 2 (sp_is_within K) := ok_is_within T D_is_within C_is_whole
  have C_gives : Cal l.prog w K mg base "gives" ["desk", "x"] 2 (sp_gives K) := ok_gives T D_gives C_takes
  have C_l_one : Cal l.prog w K mg base "_law_one" ["_law_deck_here", "_law_items"] 2 (sp_l_one K) := ok_l_one T D_l_one C_l_draw
  have C_l_error : Cal l.prog w K mg base "_law_error" ["_law_value"] 2 (sp_l_error K) := ok_l_error T D_l_error C_l_is_between
  have C_desk_error : Cal l.prog w K mg base "desk_error" ["value"] 3 (sp_desk_error K) := ok_desk_error T D_desk_error C_is_within
  have C_l_odd : Cal l.prog w K mg base "_law_odd" ["_law_deck_here"] 3 (sp_l_odd K) := ok_l_odd T D_l_odd C_l_one
  have C_l_right_desk : Cal l.prog w K mg base "_law_right_desk" ["_law_deck_here"] 3 (sp_l_right_desk K) := ok_l_right_desk T D_l_right_desk C_l_draw C_l_one
  have C_l_amounts_right : Cal l.prog w K mg base "_law_amounts_right" ["_law_deck_here", "_law_desk"] 3 (sp_l_amounts_right K) := ok_l_amounts_right T D_l_amounts_right C_takes C_gives C_l_gives C_l_draw
  have C_l_bent : Cal l.prog w K mg base "_law_bent" ["_law_deck_here", "_law_desk"] 4 (sp_l_bent K) := ok_l_bent T D_l_bent C_l_one C_l_draw C_l_odd
  exact ok_lawG T (fun_mk (st := s_law) l_law c_law k_law) C_desk_error C_l_error C_l_draw C_l_odd C_l_bent C_l_amounts_right C_l_right_desk C_l_deck

end Sm
open PySem PySem.W PyProof.Rows in
set_option maxRecDepth 100000 in
set_option maxHeartbeats 0 in
theorem PySem.Challenge.cw_smallchange_k76_desks_judged_holds : PySem.Challenge.rw_smallchange_k76_desks_judged.Holds := by
  w_on; o_law; k_head; (case hw => w_witness2)
  k_fill
  refine Sm.walk_at_law (l := PySem.Challenge.rw_smallchange_k76_desks_judged) (k := 5) (x := "_law_script") (sp := Sm.sp_law) rfl rfl ⟨rfl, by decide, by decide⟩ (fun w h Y => PySem.W.kIn_of Y) ?F (fun _ _ a ns hl hS => ⟨a, ns, rfl, hS, hl, fun _ => rfl⟩)
  case F =>
    intro w mg fa h KX G hmg
    refine' Sm.all_mk KX G hmg ?a_is_whole ?l_is_whole ?c_is_whole ?k_is_whole ?a_is_within ?l_is_within ?c_is_within ?k_is_within ?a_desk_error ?l_desk_error ?c_desk_error ?k_desk_error ?a_takes ?l_takes ?c_takes ?k_takes ?a_gives ?l_gives ?c_gives ?k_gives ?a_l_deck ?l_l_deck ?c_l_deck ?k_l_deck ?a_l_draw ?l_l_draw ?c_l_draw ?k_l_draw ?a_l_one ?l_l_one ?c_l_one ?k_l_one ?a_l_is_between ?l_l_is_between ?c_l_is_between ?k_l_is_between ?a_l_gives ?l_l_gives ?c_l_gives ?k_l_gives ?a_l_odd ?l_l_odd ?c_l_odd ?k_l_odd ?a_l_right_desk ?l_l_right_desk ?c_l_right_desk ?k_l_right_desk ?a_l_error ?l_l_error ?c_l_error ?k_l_error ?a_l_bent ?l_l_bent ?c_l_bent ?k_l_bent ?a_l_amounts_right ?l_l_amounts_right ?c_l_amounts_right ?k_l_amounts_right ?a_law ?l_law ?c_law ?k_law ?z_abs ?z_bool ?z_int ?z_isinstance ?z_len ?z_list ?z_range ?z_repr ?z_str ?z_tuple ?g_MAX_KINDS ?g_MAX_AMOUNT ?g_MAX_RATE ?g_MAX_MOST
    (case a_is_whole => k_is)
    (case l_is_whole => k_is)
    (case c_is_whole => k_is)
    (case k_is_whole => k_is)
    (case a_is_within => k_is)
    (case l_is_within => k_is)
    (case c_is_within => k_is)
    (case k_is_within => k_is)
    (case a_desk_error => k_is)
    (case l_desk_error => k_is)
    (case c_desk_error => k_is)
    (case k_desk_error => k_is)
    (case a_takes => k_is)
    (case l_takes => k_is)
    (case c_takes => k_is)
    (case k_takes => k_is)
    (case a_gives => k_is)
    (case l_gives => k_is)
    (case c_gives => k_is)
    (case k_gives => k_is)
    (case a_l_deck => k_is)
    (case l_l_deck => k_is)
    (case c_l_deck => k_is)
    (case k_l_deck => k_is)
    (case a_l_draw => k_is)
    (case l_l_draw => k_is)
    (case c_l_draw => k_is)
    (case k_l_draw => k_is)
    (case a_l_one => k_is)
    (case l_l_one => k_is)
    (case c_l_one => k_is)
    (case k_l_one => k_is)
    (case a_l_is_between => k_is)
    (case l_l_is_between => k_is)
    (case c_l_is_between => k_is)
    (case k_l_is_between => k_is)
    (case a_l_gives => k_is)
    (case l_l_gives => k_is)
    (case c_l_gives => k_is)
    (case k_l_gives => k_is)
    (case a_l_odd => k_is)
    (case l_l_odd => k_is)
    (case c_l_odd => k_is)
    (case k_l_odd => k_is)
    (case a_l_right_desk => k_is)
    (case l_l_right_desk => k_is)
    (case c_l_right_desk => k_is)
    (case k_l_right_desk => k_is)
    (case a_l_error => k_is)
    (case l_l_error => k_is)
    (case c_l_error => k_is)
    (case k_l_error => k_is)
    (case a_l_bent => k_is)
    (case l_l_bent => k_is)
    (case c_l_bent => k_is)
    (case k_l_bent => k_is)
    (case a_l_amounts_right => k_is)
    (case l_l_amounts_right => k_is)
    (case c_l_amounts_right => k_is)
    (case k_l_amounts_right => k_is)
    (case a_law => k_is)
    (case l_law => k_is)
    (case c_law => k_is)
    (case k_law => k_is)
    (case z_abs => k_is)
    (case z_bool => k_is)
    (case z_int => k_is)
    (case z_isinstance => k_is)
    (case z_len => k_is)
    (case z_list => k_is)
    (case z_range => k_is)
    (case z_repr => k_is)
    (case z_str => k_is)
    (case z_tuple => k_is)
    (case g_MAX_KINDS => k_is)
    (case g_MAX_AMOUNT => k_is)
    (case g_MAX_RATE => k_is)
    (case g_MAX_MOST => k_is)

