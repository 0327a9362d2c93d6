import PyProof.Rows.All
import Wide.All
import OpenK.AllK
import Wide.FinOn
import HandS.ForMost
import HandS.ForExc
import HandS.Star
import HandS.Deep
import HandS.IsInst
import HandS.SortKw
import KE.SortKeyHeap
import HandS.ExcIs
import HandS.Walk
import HandS.StrMore
import HandS.Evl
import HandS.CallLocal
import HandS.Zip
import PyProof.ReprNest
import PyProof.ReprUnder
import PyProof.StrBlock2
import HandS.More
import HandS.Text
import HandS.DictComp
import HandS.SetKeys
import HandS.WordsExc
import HandS.Style
import KE.DataCmp
import PyProof.StrLawsIn
import PyProof.StrLawsLast
import HandS.Exc
import KE.KExcInit
import PyProof.ExcBaseAll.OverflowError
import HandS.Defaults
import HandS.FStr
import PyProof.Rows.RegFStrParts
import HandS.TupAny
import HandS.Finally
import PyProof.DictUpdate
import PySem.Challenge.RW_linkfarms_k90_papers_by_hand
set_option Elab.async false
set_option linter.all false
set_option maxRecDepth 100000
set_option maxHeartbeats 4000000
namespace LF
open PySem PySem.Spec PyProof.Rows L2

/-- a promise that is asked only where no repr is under way -/
structure FnG (P : Program) (w : World) (K : PySem.W.Frag) (mg : Str → Option Value) (base : Heap) (CX : CXT)
    (k : Nat) (f : Addr) (fd : FuncData) (ps : List Str) (sp : Sp) : Prop where
  len : ∀ vs H Q E, sp vs H Q E → vs.length = ps.length
  go : ∀ (A : Around) (fr : List Env) (st : Shared) (H : Hp) (ar : Args) (us : List Value) (vs : List V) (Q : VK) (E : XK),
    A.guards = some [] → Room k A → Env0 P w K mg base A fr st H → BindsTo st fd ar (ps.zip us) → Vals vs us →
    sp vs H Q E → codeAny (model P w) A (.call (.ref f) ar) (CR CX fr P w H st Q E) st

theorem body_end {CX : CXT} {P : Program} {w : World} {K : PySem.W.Frag} {mg : Str → Option Value} {base : Heap} {N : List Str}
    {q : String} {sc : Scope} {f : Addr} {cd : Value} {A : Around} {fr : List Env} {st : Shared} {H : Hp} {E : XK} {Q : VK}
    {v : V} {u : Value} {σ : L2.St} {H' : Hp} {s' : Shared}
    (J : Inv (cxOf CX P w K mg base N q sc f cd A fr st H E) [] σ H' s') (rv : RelV v u) (hq : Q v H') :
    CE fr P w H st Q u s' :=
  ⟨v, H', J.os, J.bare, J.base, J.hok, rv, hq⟩

theorem fnG_of {CX : CXT} {P : Program} {w : World} {K : PySem.W.Frag} {mg : Str → Option Value} {base : Heap} {k : Nat} {f : Addr}
    {x q : String} {st : Stmt} {fd : FuncData} {N ps : List Str} {sp : Sp} (F : Fun K x q st f fd) (S : FnScope N ps (defScope st))
    (len : ∀ vs H Q E, sp vs H Q E → vs.length = ps.length)
    (hb : ∀ (cdv : Value) (A : Around) (fr : List Env) (s : Shared) (H : Hp) (vs : List V) (Q : VK) (E : XK), A.guards = some [] →
      Room k (A.deeper (envOfC q (defScope st) s.heap.objs.size f cdv)) → sp vs H Q E →
      ∃ t, PSs (cxOf CX P w K mg base N q (defScope st) f cdv A fr s H E) (defBody st) t ∧
        t { nx := fun _ H' => Q .non H', rt := Q } (start N vs) H) : FnG P w K mg base CX (k + 1) f fd ps sp := by
  obtain ⟨oc, od, kV, doc, pm, an, cdv, ct, osl, rfl, lk, hcd⟩ := F.ex
  refine ⟨len, ?_⟩
  intro A fr s H ar us vs Q E hgd hr e0 hbi r hsp
  have hl := len _ _ _ _ hsp
  have KX : K.In s.heap := e0.mod.kin.keeps (fun b o e => (e0.bs b o e).1)
  have lim : s.heap.NoLimit := e0.mod.nolimit.keeps (fun b o e => (e0.bs b o e).1)
  have hkd : ∀ y ∈ ps.zip us, (defScope st).names.lookup y.1 = some .local ∨
      ((defScope st).names.lookup y.1 = some .cell ∧ ((cellsFrom (s.heap.objs.size + 1) (defScope st).names []).lookup y.1).isSome = true) := by
    rintro ⟨n, v⟩ hy
    rcases S.par n (List.of_mem_zip hy).1 with z | z
    · exact Or.inl z
    · exact Or.inr ⟨z, PySem.W.cellsFrom_some _ _ _ (Or.inl z)⟩
  refine codeAny_call_function hr.depth (KX _ _ lk) rfl S.co S.gen rfl (PySem.W.codeRec_of KX hcd) (hbi _ _ _ _ ?_)
  refine wpAny_newFunctionEnv_cells S.kind hkd ?_
  intro env he s1 xx
  subst he
  refine ⟨lim.keeps xx.toInCall.keep, codeAny_func ?_⟩
  obtain ⟨t, ht, hq⟩ := hb cdv A fr s H vs Q E hgd (hr.deeper _) hsp
  have I := inv_start (CX := CX) (cd := cdv) (E := E) S hr.hd e0 hl r xx
  refine wpAny_mono (ht.run [] s1 (start N vs) H _ I hq) ?_ (fun e s' hs => hs)
  intro fl s' hs
  cases fl with
  | ret u =>
    obtain ⟨v, σ', H', J, rv, z⟩ := hs
    exact body_end J rv z
  | next =>
    obtain ⟨σ', H', J, z⟩ := hs
    exact body_end (v := V.non) (u := Value.none) J rfl z
  | brk => exact (hs.choose_spec.choose_spec.2).elim
  | cont => exact (hs.choose_spec.choose_spec.2).elim

section
variable {X : Cx} {CX : CXT} {k : Nat} {f : Addr} {fd : FuncData} {ps : List Str} {sp : Sp} {dvs : List V} {ds : List Value} {E : XK}
  {x : Str} {p pos : Pos} {e : Expr} {es : List Expr} {t : TA}

theorem runG {pins : List (Addr × Obj)} {σ : L2.St} {H : Hp} {s : Shared} {Q : VK} {us : List Value} {vs : List V}
    (F : FnG X.prog X.w X.K X.mg X.base CX k f fd ps sp) (gd : X.A.guards = some []) (hr : Room k X.A) (hb : Binds X.K fd ps [])
    (hx : Passes CX X E) (I : Inv X pins σ H s) (r : Vals vs us) (h : sp vs H Q E) :
    wpAny (model X.prog X.w) X.A (call (.ref f) us) (EP X pins σ Q) X.xe s := by
  have hl : us.length = ps.length := by rw [← r.length]; exact F.len _ _ _ _ h
  have hb' := hb s us I.kIn (by rw [List.append_nil]; exact hl)
  rw [List.append_nil] at hb'
  refine wpAny_call (codeAny_mono (F.go X.A X.stack s H ⟨us, []⟩ us vs Q E gd hr I.env0 hb' r h) ?_)
  intro rr s' hq
  cases rr with
  | error e => exact hx pins σ H s e s' I hq
  | ok fl =>
    cases fl with
    | ret u => exact I.after hq
    | next => exact hq.elim
    | brk => exact hq.elim
    | cont => exact hq.elim

theorem pe_callG (F : FnG X.prog X.w X.K X.mg X.base CX k f fd ps sp) (gd : X.A.guards = some []) (hr : Room k X.A) (hg : Gl X x)
    (hm : X.mg x = some (.ref f)) (hk : PySem.W.keepIn X.K (.ref f) = true) (hb : Binds X.K fd ps []) (hx : Passes CX X E)
    (ha : PA X (e :: es) t) (hdb : (x == ("__debug__" : Str)) = false := by decide)
    (he : starEach (e :: es) X.env = (false, eval e X.env) :: starEach es X.env := by rfl)
    (hpl : (backTo pos (starEach es X.env)).any (·.1) = false := by rfl) :
    PE X (.Call (.Name x p) (e :: es) [] pos) (fun σ H Q => t σ H fun vs H1 => sp vs H1 Q E) := by
  constructor
  intro pins s σ H Q I h
  refine wpAny_Call_Name_kw (ld_glob I hg hm ?_ hdb)
  refine PySem.W.callWith_K (h₀ := X.base) I.ok.mod.kin hk (thn (ha.run pos pins s σ H _ I h) ?_) he hpl
  rintro us s1 ⟨vs, H1, I1, r, z⟩
  exact ⟨I1.kIn, runG F gd hr hb hx I1 r z⟩
end

/-- repr of data of any depth, where no repr is under way -/
def rRepr (K : PySem.W.Frag) : List V → Hp → VK → Prop := fun xs H Q =>
  ∃ x d, xs = [x] ∧ Dp K H x d ∧ d.showable = true ∧ d.hasDict = false ∧ d.depth ≤ 60 ∧ d.shown.length ≤ sizeLine ∧ Q (.str d.shown) H
theorem call_reprD {X : Cx} (gd : X.A.guards = some []) (hu : X.A.units + 64 < cLine) : CallR X (.builtin "repr") (rRepr X.K) := by
  intro pins s σ H xs us Q I r h
  obtain ⟨x, d, rfl, hd, hs, hn, hp, hz, q⟩ := h
  obtain ⟨u, rfl, ru⟩ := vals1 r
  obtain ⟨as, rd⟩ := Dp.reads I d x u hd ru
  cases hd with
  | non => cases ru; exact PySem.P.repr_of_none ⟨.str _, H, I.tok _, ⟨_, rfl⟩, q⟩
  | bl b => cases ru; exact PySem.P.repr_of_bool ⟨.str _, H, I.tok _, ⟨_, rfl⟩, q⟩
  | int i =>
    obtain ⟨t, rfl⟩ := ru
    exact PySem.P.repr_of_int (by simpa [PyData.showable] using hs) ⟨.str _, H, I.tok _, ⟨_, rfl⟩, q⟩
  | str z =>
    obtain ⟨t, rfl⟩ := ru
    exact PySem.P.repr_of_str ⟨.str _, H, I.tok _, ⟨_, rfl⟩, q⟩ hz
  | lst a b =>
    cases ru
    exact repr_of_reads' rd hs (PyData.noDict_hsm hn) gd (by omega) (fun _ _ e => e)
      (fun h' u tk hk => ⟨.str _, H, I.kept (t' := tk) hk, ⟨_, rfl⟩, q⟩) hz
  | tup a b =>
    cases ru
    exact repr_of_reads' rd hs (PyData.noDict_hsm hn) gd (by omega) (fun _ _ e => e)
      (fun h' u tk hk => ⟨.str _, H, I.kept (t' := tk) hk, ⟨_, rfl⟩, q⟩) hz
end LF

set_option Elab.async false
set_option linter.all false
set_option maxRecDepth 100000
set_option maxHeartbeats 4000000
namespace LF
open PySem PySem.Spec PyProof.Rows L2
open PySem.W (EachIs dataLe AllAlike Sortable KeepsBut KeyedOut)

theorem sqL_same {K : PySem.W.Frag} {H H' : Hp} {a : Addr} {xs : List V} (e : Same H H') (h : SqL K H a xs) : SqL K H' a xs := e.seq h
theorem sqT_same {K : PySem.W.Frag} {H H' : Hp} {a : Addr} {xs : List V} (e : Same H H') (h : SqT K H a xs) : SqT K H' a xs := by
  rcases h with (h | ⟨o, h⟩) | h
  · exact Or.inl (Or.inl (e _ _ h))
  · exact Or.inl (Or.inr ⟨o, e _ _ h⟩)
  · exact Or.inr h
mutual
theorem dp_same {K : PySem.W.Frag} {H H' : Hp} (e : Same H H') : ∀ (d : PyData) (v : V), Dp K H v d → Dp K H' v d
  | .none, _, h => by cases h; exact .non
  | .bool b, _, h => by cases h; exact .bl b
  | .int i, _, h => by cases h; exact .int i
  | .str x, _, h => by cases h; exact .str x
  | .list ds, _, h => by cases h with | lst a b => exact .lst (sqL_same e a) (dpAll_same e ds _ b)
  | .tuple ds, _, h => by cases h with | tup a b => exact .tup (sqT_same e a) (dpAll_same e ds _ b)
  | .dict _, _, h => by cases h
theorem dpAll_same {K : PySem.W.Frag} {H H' : Hp} (e : Same H H') : ∀ (ds : List PyData) (vs : List V), DpAll K H vs ds → DpAll K H' vs ds
  | [], _, h => by cases h; exact .nil
  | d :: ds, _, h => by cases h with | cons a b => exact .cons (dp_same e d _ a) (dpAll_same e ds _ b)
end

/-- sorted(xs, key=f), xs texts, f a def that hands back data and leaves what is tracked -/
def rSortF (K : PySem.W.Frag) (f : Addr) (kd : Str → PyData) (sp : Sp) : List V → List V → Hp → VK → Prop := fun xs zs H Q =>
  ∃ (a : Addr) (ws : List Str), xs = [.ref a] ∧ zs = [.ref f] ∧ SqL K H a (ws.map V.str) ∧ AllAlike (ws.map kd) ∧ Sortable (ws.map kd) ∧
    (∀ d ∈ ws.map kd, d.depth ≤ 60) ∧
    (∀ x ∈ ws, ∀ H1, Same H H1 → ∀ Q1 : VK, (∀ v H2, Same H1 H2 → Dp K H2 v (kd x) → Q1 v H2) → sp [.str x] H1 Q1 E0) ∧
    ∀ H1 p, Same H H1 → H1 p = none → Q (.ref p) (upd H1 p (.lst ((ws.mergeSort (dataLe false kd)).map V.str)))

theorem each_vals_str : ∀ {ws : List Str} {us : List Value}, Vals (ws.map V.str) us → EachIs (fun (v : Value) (x : Str) => ∃ t, v = Value.str x t) us ws
  | [], _, h => by cases h; exact .nil
  | x :: ws, _, h => by cases h with | cons a b => exact .cons a (each_vals_str b)
theorem vals_each_str : ∀ {ws : List Str} {us : List Value}, EachIs (fun (v : Value) (x : Str) => ∃ t, v = Value.str x t) us ws → Vals (ws.map V.str) us
  | [], _, h => by cases h; exact .nil
  | x :: ws, _, h => by cases h with | cons a b => exact .cons a (vals_each_str b)
theorem each_get {α β : Type} {R : α → β → Prop} : ∀ {as : List α} {bs : List β} {i : Nat} {x : α}, EachIs R as bs → as[i]? = some x → ∃ y, bs[i]? = some y ∧ R x y
  | _, _, 0, x, .cons h _, e => by simp at e; subst e; exact ⟨_, rfl, h⟩
  | _, _, i + 1, x, .cons _ t, e => by simpa using each_get (i := i) t (by simpa using e)
theorem each_reads {X : Cx} {pins : List (Addr × Obj)} {σ : L2.St} {H : Hp} {s : Shared} {kd : Str → PyData} (I : Inv X pins σ H s) :
    ∀ {us : List Value} {ws : List Str}, EachIs (fun v x => ∃ y, RelV y v ∧ Dp X.K H y (kd x)) us ws →
      EachIs (fun v k => ∃ as, Reads s.heap v k as) us (ws.map kd)
  | _, _, .nil => .nil
  | _, _, .cons ⟨y, r, d⟩ t => .cons (Dp.reads I _ _ _ d r) (each_reads I t)

section
variable {X : Cx} {kf : Nat} {f : Addr} {fd : FuncData} {px : Str} {sp : Sp} {kd : Str → PyData}

theorem pin_new {pins : List (Addr × Obj)} {σ : L2.St} {H : Hp} {s : Shared} (I : Inv X pins σ H s) {b : Addr} (hb : s.heap.objs.size ≤ b) :
    H b = none ∧ b ≠ X.env.locals ∧ b ∉ X.fs ∧ (∀ x c, X.env.cells.lookup x = some c → c ≠ b) ∧ ∀ p ∈ X.pn ++ pins, p.1 ≠ b := by
  refine ⟨I.hok.fresh hb, ?_, I.nofs hb, ?_, ?_⟩
  · exact Ne.symm (Nat.ne_of_lt (Nat.lt_of_lt_of_le I.lt hb))
  · intro x c hc
    obtain ⟨v, o, ho, _⟩ := I.cell x c hc
    exact Nat.ne_of_lt (Nat.lt_of_lt_of_le (Heap.lt_size ho) hb)
  · intro p hp
    exact Nat.ne_of_lt (Nat.lt_of_lt_of_le (Heap.lt_size (I.pin p hp).1) hb)

theorem call_sortedF (F : FnOk X.prog X.w X.K X.mg X.base CX0 kf f fd [px] sp) (hr : Room (kf + 2) X.A) (hb : Binds X.K fd [px] []) :
    CallRK X (.builtin "sorted") [Str.ofString "key"] (rSortF X.K f kd sp) := by
  intro pins s σ H xs zs us vz Q I r rz h
  obtain ⟨a, ws, rfl, rfl, hs, hal, hsk, hdep, hkey, hq⟩ := h
  obtain ⟨its, rv, hl, hz⟩ := I.list hs
  rw [Vals.ref1 r]
  rw [Vals.ref1 rz]
  have hwl : ws.length = its.length := by rw [← rv.length, List.length_map]
  have hZ : its.length ≤ sizeLine := by rw [← rv.length]; exact hz
  have hE := each_vals_str rv
  show wpAny _ _ (call (.builtin "sorted") [.ref a] [(Str.ofString "key", .ref f)]) _ _ _
  refine PySem.W.sorted_of_sort (vs := its) hl.isList hZ (ksk_s1 _ _) (fun x => ksk_l1 _ _) ?_
  intro E'
  rw [ksk_t1]
  obtain ⟨hp, g, dr, tk, os⟩ := s
  -- the copy, at D
  generalize hD : hp.objs.size + 1 = D
  have hcp : (PySem.W.copyHeap hp its).get? D = some (seqObj "list" its.toArray 0) := by rw [← hD]; exact PySem.W.copyHeap_at hp its
  have hold : ∀ b o, hp.get? b = some o → (PySem.W.copyHeap hp its).get? b = some o := fun b o e => PySem.W.copyHeap_old e
  have hDsz : D < (PySem.W.copyHeap hp its).objs.size := Heap.lt_size hcp
  have hDnew : hp.objs.size ≤ D := by omega
  obtain ⟨e1, he1⟩ : ∃ e1, ((PySem.W.copyHeap hp its).update D (Obj.mapSeq fun _ => (#[] : Array Value))).get? D = some (seqObj "list" #[] e1) := ⟨_, get?_update_seq hcp fun _ => #[]⟩
  have hS1 : ((PySem.W.copyHeap hp its).update D (Obj.mapSeq fun _ => (#[] : Array Value))).objs.size = (PySem.W.copyHeap hp its).objs.size := by rw [Heap.size_update]
  unfold ksk_tree
  refine wpAny_bind (listItems_at hcp rfl ?_)
  refine wpAny_bind (listUpdate_at hcp rfl ?_ (by rw [List.size_toArray]; exact hZ) (Nat.zero_le _))
  refine wpAny_bind (seqEpoch_at he1 rfl ?_)
  refine wpAny_bind (wpAny_newTuple ?_ (by show its.length ≤ _; exact hZ))
  refine wpAny_bind (wpAny_newList ?_ (Nat.zero_le _))
  refine wpAny_holding ?_
  generalize hT : (((PySem.W.copyHeap hp its).update D (Obj.mapSeq fun _ => (#[] : Array Value))).push ({ cls := .type "tuple", data := .seq its.toArray } : Obj)) = h1
  have hkS : h1.objs.size = (PySem.W.copyHeap hp its).objs.size + 1 := by rw [← hT, size_push', hS1]
  generalize hkk : h1.objs.size = kS
  have hDk : kS ≠ D := by omega
  have hkSnew : hp.objs.size ≤ kS := by omega
  have k1 : ∀ b o, b ≠ D → (PySem.W.copyHeap hp its).get? b = some o → h1.get? b = some o := fun b o hb e => by
    rw [← hT]
    exact Heap.get?_push_of_some _ ((Heap.get?_update_ne _ _ _ _ hb).trans e)
  have k2 : ∀ b o, hp.get? b = some o → (h1.push (seqObj "list" #[] 0)).get? b = some o := fun b o e =>
    Heap.get?_push_of_some _ (k1 b o (Nat.ne_of_lt (Nat.lt_of_lt_of_le (Heap.lt_size e) hDnew)) (hold b o e))
  have g1 : (h1.push (seqObj "list" #[] 0)).get? D = some (seqObj "list" #[] e1) := Heap.get?_push_of_some _ (by rw [← hT]; exact Heap.get?_push_of_some _ he1)
  have g2 : (h1.push (seqObj "list" #[] 0)).get? kS = some (seqObj "list" #[] 0) := by rw [← hkk]; exact Heap.get?_push_size _ rfl
  have nD := pin_new I (b := D) hDnew
  have nK := pin_new I (b := kS) hkSnew
  have I2 : Inv X pins σ H ⟨h1.push (seqObj "list" #[] 0), g, dr, tk, os⟩ := I.kept (t' := tk) k2
  have seqne : ∀ (c : String) (xs : Array Value) (n : Nat) (v : Option Value), (seqObj c xs n).data ≠ .cell v := fun c xs n v z => by cases z
  have I3 : Inv X ((kS, seqObj "list" #[] 0) :: (D, seqObj "list" #[] e1) :: pins) σ H ⟨h1.push (seqObj "list" #[] 0), g, dr, tk, os⟩ := I2.pins_of (by
    intro p hp'
    rcases List.mem_cons.mp hp' with rfl | hp'
    · exact ⟨g2, nK.1, nK.2.1, nK.2.2.1, seqne _ _ _⟩
    rcases List.mem_cons.mp hp' with rfl | hp'
    · exact ⟨g1, nD.1, nD.2.1, nD.2.2.1, seqne _ _ _⟩
    · exact I2.pin p (List.mem_append_right _ hp'))
  show wpAny _ _ (ksk_rest D (.ref f) false its.toArray e1 (.ref kS)) _ _ ⟨h1.push (seqObj "list" #[] 0), g, dr, tk, os⟩
  unfold ksk_rest
  refine wpAny_bind (wpAny_rule ?_)
  rw [List.forIn_toArray]
  refine wpAny_bind (ksk_fold (fun i s' => ∃ kA e H', Same H H' ∧ Inv X ((kS, seqObj "list" kA e) :: (D, seqObj "list" #[] e1) :: pins) σ H' s' ∧
      EachIs (fun v x => ∃ y, RelV y v ∧ Dp X.K H' y (kd x)) kA.toList (ws.take i)) its 0 _
    ⟨#[], 0, H, Same.refl H, I3, by rw [List.take_zero]; exact .nil⟩ ?step ?done)
  case step =>
    rintro j u s' hu ⟨kA, e, H', sm, J, hk⟩
    simp only [Nat.zero_add] at hk ⊢
    obtain ⟨x, hx, t, rfl⟩ := each_get hE hu
    have hxm : x ∈ ws := List.mem_of_getElem? hx
    have hj : j < ws.length := (List.getElem?_eq_some_iff.mp hx).1
    have hklen : kA.size ≤ ws.length := by
      have := hk.length
      rw [Array.length_toList, List.length_take] at this
      omega
    have hsp := hkey x hxm H' sm (fun v H2 => Same H' H2 ∧ Dp X.K H2 v (kd x)) (fun v H2 s2 d2 => ⟨s2, d2⟩)
    have hb' := hb s' [.str x t] J.kIn rfl
    rw [List.append_nil] at hb'
    have run := F.run X.A.in1.in1 X.stack s' H' ⟨[.str x t], []⟩ [.str x t] [.str x] _ E0 (hr.in1.in1) (J.env0.in1.in1) hb' (.cons ⟨t, rfl⟩ .nil) hsp
    have call1 : wpAny (model X.prog X.w) X.A.in1.in1 (call (.ref f) [.str x t]) (CE X.stack X.prog X.w H' s' (fun v H2 => Same H' H2 ∧ Dp X.K H2 v (kd x))) (fun _ _ => False) s' := by
      refine wpAny_call (codeAny_mono run ?_)
      intro rr s2 hq2
      cases rr with
      | error e => exact hq2
      | ok fl =>
        cases fl with
        | ret u => exact hq2
        | next => exact hq2
        | brk => exact hq2
        | cont => exact hq2
    refine wpAny_bind (wpAny_attempt (wpAny_mono call1 ?_ (fun _ _ z => z.elim)))
    intro u s2 hu2
    obtain ⟨y, H2, J2, ry, sm2, dp2⟩ := J.after hu2
    obtain ⟨pk, pnK, pLK, pfK, _⟩ := J2.pin (kS, seqObj "list" kA e) (List.mem_append_right _ List.mem_cons_self)
    obtain ⟨pd, pnD, pLD, pfD, _⟩ := J2.pin (D, seqObj "list" #[] e1) (List.mem_append_right _ (List.mem_cons_of_mem _ List.mem_cons_self))
    have J3 : Inv X ((D, seqObj "list" #[] e1) :: pins) σ H2 s2 := J2.pins_of (by
      intro p hp'
      exact J2.pin p (List.mem_append_right _ (List.mem_cons_of_mem _ hp')))
    obtain ⟨hp2, g2', dr2, tk2, os2⟩ := s2
    refine wpAny_bind (listUpdate_at pk rfl ?_ (Nat.le_trans hklen (by rw [hwl]; exact hZ)) (by rw [Array.size_push]; exact Nat.succ_le_succ (Nat.le_trans hklen (by rw [hwl]; exact hZ))))
    have sb := Heap.SameBut.update hp2 kS (Obj.mapSeq (·.push u))
    obtain ⟨c2, hc2⟩ : ∃ c2, (hp2.update kS (Obj.mapSeq (·.push u))).get? kS = some (seqObj "list" (kA.push u) c2) := ⟨_, get?_update_seq pk (·.push u)⟩
    have pne : ∀ p ∈ X.pn ++ ((D, seqObj "list" #[] e1) :: pins), p.1 ≠ kS := by
      intro p hp'
      rcases List.mem_append.mp hp' with q | q
      · exact nK.2.2.2.2 p (List.mem_append_left _ q)
      rcases List.mem_cons.mp q with rfl | q
      · exact Ne.symm hDk
      · exact nK.2.2.2.2 p (List.mem_append_right _ q)
    have s0k : X.s_0.heap.objs.size ≤ kS := Nat.le_trans I.sz hkSnew
    have J4 := J3.turned (t' := tk2) (it := kS) (h' := hp2.update kS (Obj.mapSeq (·.push u))) (fun b o hb e => (sb.2 b hb).trans e) pnK pLK (Or.inr s0k) nK.2.2.2.1 pne
    have J5 : Inv X ((kS, seqObj "list" (kA.push u) c2) :: (D, seqObj "list" #[] e1) :: pins) σ H2 ⟨hp2.update kS (Obj.mapSeq (·.push u)), g2', dr2, tk2, os2⟩ := J4.pins_of (by
      intro p hp'
      rcases List.mem_cons.mp hp' with rfl | hp'
      · exact ⟨hc2, pnK, pLK, pfK, seqne _ _ _⟩
      · exact J4.pin p (List.mem_append_right _ hp'))
    refine wpAny_pure ⟨rfl, kA.push u, c2, H2, sm.trans sm2, J5, ?_⟩
    have ek : ws.take (j + 1) = ws.take j ++ [x] := by rw [List.take_add_one, hx]; rfl
    rw [ek, Array.toList_push]
    exact PySem.W.each_snoc ⟨y, ry, dp2⟩ (hk.mono fun v z ⟨y', r', d'⟩ => ⟨y', r', dp_same sm2 _ _ d'⟩)
  case done =>
    rintro s' ⟨kA, e, H', sm, J, hk⟩
    rw [List.take_of_length_le (by omega)] at hk
    obtain ⟨pk, pnK, pLK, pfK, _⟩ := J.pin (kS, seqObj "list" kA e) (List.mem_append_right _ List.mem_cons_self)
    obtain ⟨pd, pnD, pLD, pfD, _⟩ := J.pin (D, seqObj "list" #[] e1) (List.mem_append_right _ (List.mem_cons_of_mem _ List.mem_cons_self))
    have J1 : Inv X pins σ H' s' := J.pins_of (by
      intro p hp'
      exact J.pin p (List.mem_append_right _ (List.mem_cons_of_mem _ (List.mem_cons_of_mem _ hp'))))
    have hr' := each_reads J hk
    have hksz : kA.size = its.length := by
      have := hk.length
      rw [Array.length_toList] at this
      omega
    refine wpAny_bind (listItems_at pk rfl ?_)
    have kb : KeepsBut D (PySem.W.hideAll s'.heap [kS]) s'.heap := fun b o hb e => PySem.W.of_hideAll [kS] e
    have hu : ∀ d ∈ ws.map kd, X.A.in1.in1.units + d.depth < cLine := by
      intro d hd
      have h1 := hdep d hd
      have h2 := hr.un
      show X.A.units + 1 + 1 + d.depth < cLine
      omega
    refine PySem.W.keyH_end (κ := PySem.W.dataKind s'.heap (ws.map kd)) kb (PySem.W.hideAll_none [kS] List.mem_cons_self) pk pd hDk (PySem.W.SortsAt.data (s := s') hr' hal hsk hu) hksz hZ ?_
    intro h' tk' c kp hD'
    refine ⟨rfl, ?_⟩
    have hout : EachIs (fun (v : Value) (x : Str) => ∃ t, v = Value.str x t) (PySem.W.sortVals (PySem.W.dataKind s'.heap (ws.map kd)) false kA.toList its) (ws.mergeSort (dataLe false kd)) :=
      PySem.W.keyedOut_each (rev := false) kd ⟨s'.heap, kA.toList, hal, rfl, hr'⟩ hE
    have hv := vals_each_str hout
    have keep : ∀ b o, b ≠ D → b ≠ kS → s'.heap.get? b = some o → h'.get? b = some o := fun b o n1 n2 e =>
      kp b o n1 (PySem.W.hideAll_get [kS] e (by simpa using n2))
    have hn : H' D = none := pnD
    have hlen : ((ws.mergeSort (dataLe false kd)).map V.str).length ≤ sizeLine := by
      rw [List.length_map, List.length_mergeSort, hwl]; exact hZ
    refine ⟨.ref D, upd H' D (.lst ((ws.mergeSort (dataLe false kd)).map V.str)), ?_, rfl, hq H' D sm hn⟩
    have hne : ∀ b u, H' b = some u → b ≠ D ∧ b ≠ kS := fun b u q => ⟨ne_of_none q hn, ne_of_none q pnK⟩
    refine J1.step (ch := [D, kS]) (g' := s'.gens) (d' := s'.drawn) (t' := tk') ?_ ?_ ?_ ?_ ?_ ?_ ?_ ?_ ?_ ?_ J1.bare
    · intro b hb
      rcases List.mem_cons.mp hb with rfl | hb
      · exact ⟨Or.inr (Nat.le_trans I.sz hDnew), pLD, nD.2.2.2.1, nD.2.2.2.2⟩
      · rw [List.mem_singleton.mp hb]
        exact ⟨Or.inr (Nat.le_trans I.sz hkSnew), pLK, nK.2.2.2.1, nK.2.2.2.2⟩
    · intro b o _ _ hc e _
      exact keep b o (fun z => hc (by simp [z])) (fun z => hc (by simp [z])) e
    · intro b o _ _ hc e _
      exact ⟨o.slots, keep b o (fun z => hc (by simp [z])) (fun z => hc (by simp [z])) e⟩
    · intro b o hc e n
      rw [upd_ne (fun z => hc (by simp [z]))]
      exact n
    · intro b o hc e
      exact ⟨o, keep b o (fun z => hc (by simp [z])) (fun z => hc (by simp [z])) e⟩
    · intro b xs e
      rw [upd_ne (hne b _ e).1]; exact e
    · intro b o u e
      rw [upd_ne (hne b _ e).1]; exact e
    · intro b ps e
      exact ⟨#[], by rw [upd_ne (hne b _ e).1, e]; simp⟩
    · rintro m ⟨o, es, ep, ho, rest⟩
      exact ⟨o, es, ep, keep _ o (Ne.symm pLD) (Ne.symm pLK) ho, rest⟩
    · intro b u e
      by_cases hb : b = D
      · subst hb
        rw [upd_same] at e
        cases e
        exact ⟨hlen, _, c, hv, hD'⟩
      · rw [upd_ne hb] at e
        refine (J1.hok b u e).stay (fun z w' hz q => keep z w' ?_ ?_ q) (fun z q => ?_) (fun z xs q => ?_)
        · rcases hz with rfl | hz
          · exact hb
          · exact (hne z _ hz).1
        · rcases hz with rfl | hz
          · exact (hne z _ e).2
          · exact (hne z _ hz).2
        · rw [upd_ne (hne z _ q).1]; exact q
        · rw [upd_ne (hne z _ q).1]; exact q
end
end LF

set_option Elab.async false
set_option linter.all false
set_option maxRecDepth 100000
set_option maxHeartbeats 4000000
namespace LF
open PySem PySem.Spec PySem.Calls PyProof.Rows
open PySem.W (Looks InstAt findIn specialIn takesIn subIn mroIn hasDictIn clsIn findObj looks_findIn looks_find looks_subIn any_some)

section
variable {prog : Program} {w : World} {A : Around} {E : Value → Shared → Prop} {s : Shared} {K : PySem.W.Frag} {x D : Addr} {ox : Obj} {od : Option Obj}

/-- an error's class asked of the error itself, whether it has a dict or none -/
theorem errClass (C : L2.ExcC K D) {Q : Option Value → Shared → Prop} (X : K.In s.heap) (I : InstAt s.heap x ox D od)
    (h : Q (some (.ref D)) { s with toks := s.toks + 1 }) : wpAny (model prog w) A (getAttr? (.ref x) "__class__") Q E s := by
  have hf : findObj K D od "__class__" = some (.bind (.builtin "getset_descriptor.__get__") (.builtin "object.__class__")) := by
    obtain ⟨cd, e, _⟩ := any_some C.hd
    simp only [findObj, e, C.ha, C.hn, C.ht, Option.bind_some]
  obtain ⟨hh, gg, dd, tt, oo⟩ := s
  have lt := I.type (M := model prog w)
  have lg := looks_findIn (M := model prog w) X C.hg
  have lk := looks_findIn (M := model prog w) X C.hk
  have lf := looks_find (M := model prog w) X I hf
  have ls : Looks (model prog w) hh (isInstance (.ref x) (.type "BaseException")) true := lt.andThen (looks_subIn X C.hs)
  have z0 : (Value.builtin "BaseException.__getattribute__" == Value.builtin "object.__getattribute__") = false := by decide +kernel
  have z1 : (onTheHeap (Value.ref D) && Value.builtin "BaseException.__getattribute__" == Value.builtin "object.__getattribute__") = false := by
    rw [z0]; rfl
  have z2 : (false && onTheHeap (Value.builtin "BaseException.__getattribute__")) = false := rfl
  unfold getAttr? getAttrBy? getAttrBy
  refine wpAny_bind (wpAny_mkText (wpAny_bind (wpAny_attempt (wpAny_holding (wpAny_bind (lt.at (wpAny_bind (lg.at ?_))))))))
  show wpAny _ _ (if (onTheHeap (Value.ref D) && Value.builtin "BaseException.__getattribute__" == Value.builtin "object.__getattribute__") = true
    then _ else _) _ _ _
  rw [z1, if_neg Bool.false_ne_true]
  unfold getAttrByItsOwn hookBefore
  apply wpAny_bind
  rw [if_pos (show onTheHeap (Value.ref D) = true from rfl)]
  apply lk.at
  refine wpAny_bind (wpAny_attempt (wpAny_holding ?_))
  unfold callGetattribute
  rw [z2, if_neg Bool.false_ne_true]
  unfold boundAndCalled
  rw [PySem.F.excAttr_ValueError.ga.bind (.ref x)]
  apply wpAny_bind
  apply wpAny_pure
  show wpAny _ _ (call (.builtin "BaseException.__getattribute__") [.ref x, .str "__class__" tt]) _ _ _
  refine wpAny_call (codeAny_call_builtin PySem.F.excAttr_ValueError.ga.plain PySem.F.entry_bexc_ga ?_)
  refine @PySem.W.check_slot (model prog w) _ _ ⟨hh, gg, dd, tt + 1, oo⟩ "BaseException.__getattribute__" "BaseException" "__getattribute__"
    (.ref x) [.str "__class__" tt] [] _ (by decide +kernel) (by decide +kernel) ls (PySem.F.args_bexc_ga (.ref x) (.str "__class__" tt)) ?_
  unfold Builtin.«object.__getattribute__»
  refine wpAny_bind (wpAny_of_eq (a := ((Value.ref x : Value), [Value.str "__class__" tt])) (by
    first
      | rfl
      | (simp only [slotArgs]; rfl)) ?_)
  refine wpAny_bind (wpAny_pure (wpAny_bind (lt.at (wpAny_bind (lf.at ?_)))))
  show wpAny _ _ (holding [Value.builtin "object.__class__"]
    (call (.builtin "getset_descriptor.__get__") [.builtin "object.__class__", .ref x, .ref D]) >>= ret) _ _ _
  refine wpAny_bind (wpAny_holding (wpAny_call (PySem.W.class_get (s := ⟨hh, gg, dd, tt + 1, oo⟩) X I C.hm ?_)))
  apply wpAny_pure
  show wpAny _ _ (handedOut (.ref D)) _ _ _
  rw [PySem.W.handedOut_of (v := .ref D) rfl]
  first
    | exact wpAny_pure (wpAny_pure h)
    | exact wpAny_pure h
    | exact wpAny_pure (wpAny_bind (wpAny_pure (wpAny_pure h)))

theorem errKit (C : L2.ExcC K D) : PySem.W.KitX K (.ref x) (.ref D) (fun h => ∃ ox od, InstAt h x ox D od) := by
  have cls : ∃ c d cd sl, K.lookup D = some ⟨c, d, .cls cd, sl⟩ := by
    obtain ⟨cd, e, _⟩ := any_some C.hd
    unfold clsIn at e
    split at e
    · rename_i c d cd' sl e'
      exact ⟨c, d, cd', sl, e'⟩
    · exact nomatch e
  obtain ⟨c, d, cd, sl, hl⟩ := cls
  refine ⟨fun M h X q => ?_, fun M h X q => ?_, fun h tp ddd its n sl' X ht => ?_, fun X q k => ?_⟩
  · obtain ⟨_, _, I⟩ := q
    exact I.type
  · intro A' Q' E' s' k q'
    unfold isType loadHead
    exact wpAny_bind (wpAny_loadPart (k _ _ (X _ _ hl)) (wpAny_pure q'))
  · cases hq : (Value.ref D == .ref tp) with
    | false => rfl
    | true =>
      have e : D = tp := Value.ref.inj (beq_iff_eq.mp hq)
      subst e
      exact nomatch (X _ _ hl).symm.trans ht
  · obtain ⟨_, _, I⟩ := q
    exact errClass C X I k
end
end LF

namespace LF
open PySem PySem.Spec PyProof.Rows L2
/-- isinstance(e, c) and isinstance(e, (c, ..)) of the error that the suite holds, with its own dict -/
def rIsErr (K : PySem.W.Frag) (D a : Addr) : List V → Hp → VK → Prop := fun xs H Q =>
  (∃ (c : V) (cv : Value) (b : Bool), xs = [.ref a, c] ∧ (∀ u, RelV c u → u = cv) ∧ PySem.W.kitOne K (.ref D) cv = some b ∧ Q (.bl b) H) ∨
  (∃ (tp : Addr) (cs : List V) (us : List Value) (b : Bool), xs = [.ref a, .ref tp] ∧ H tp = some (.tup cs) ∧ Paired ClsV cs us ∧
    PySem.W.kitAny K (.ref D) us = some b ∧ Q (.bl b) H)

theorem call_isErr {X : Cx} {a D : Addr} {oe : Obj} {cls : Value} {d : Option Addr} {pn : List (Addr × Obj)} (C : ExcC X.K D) (hz : Zc cls d oe)
    (hf : ∃ vs, oe.data = .fields vs) :
    CallR (X.suite a ((a, oe) :: pn)) (.builtin "isinstance")
      (fun xs H Q => cls = .ref D ∧ (∀ e, d = some e → ∃ fs, H e = some (.xd fs)) ∧ rIsErr X.K D a xs H Q) := by
  intro pins s σ H xs us Q I r h
  obtain ⟨ec0, hde, h⟩ := h
  subst ec0
  obtain ⟨hget, _⟩ := I.pin (a, oe) (List.mem_append.mpr (.inl List.mem_cons_self))
  obtain ⟨vs, hv⟩ := hf
  have J : ∃ ox od, PySem.W.InstAt s.heap a ox D od := by
    obtain ⟨oc, odd, oda, osl⟩ := oe
    obtain ⟨h1, h2⟩ := hz
    dsimp only at h1 h2 hv
    subst h1 h2 hv
    cases odd with
    | none => exact ⟨_, none, hget, rfl, rfl, trivial⟩
    | some e =>
      obtain ⟨fs, he⟩ := hde e rfl
      obtain ⟨mA, hns, _⟩ := (show ObjOk X.prog X.w H s.heap e (.xd fs) from I.hok e _ he)
      obtain ⟨od, ho, _⟩ := L2.lookIn_ns hns
      exact ⟨_, some od, hget, rfl, rfl, ho⟩
  rcases h with ⟨c, cv, b, rfl, hcv, e, q⟩ | ⟨tp, cs, ws, b, rfl, hT, k, e, q⟩
  · obtain ⟨u1, u2, rfl, r1, r2⟩ := vals2 r
    cases (show u1 = Value.ref a from r1)
    have ec := hcv _ r2
    subst ec
    exact PySem.W.kia_one (errKit C) I.kIn J e (fun z => nomatch z) fun tk => ⟨.bl b, H, I.tok tk, rfl, q⟩
  · obtain ⟨u1, u2, rfl, r1, r2⟩ := vals2 r
    cases (show u1 = Value.ref a from r1)
    cases (show u2 = Value.ref tp from r2)
    obtain ⟨_, its, rv, o, h1, h2, n, h3⟩ := (show ObjOk X.prog X.w H s.heap tp (.tup cs) from I.hok tp _ hT)
    have e3 := ClsV.all k rv
    subst e3
    obtain ⟨oc, od, dt, sl⟩ := o
    simp only at h2 h3
    subst h2 h3
    exact PySem.W.kia_tup (errKit C) I.kIn J h1 e (fun z => nomatch z) fun tk => ⟨.bl b, H, I.tok tk, rfl, q⟩
end LF

set_option Elab.async false
set_option linter.all false
set_option maxRecDepth 100000
set_option maxHeartbeats 4000000
namespace LF
open PySem PySem.Spec PyProof.Rows L2
def lettersN : Str := "abcdefghijklmnopqrstuvwxyz"
theorem low_code : ∀ c : Fin 128, (Unicode.isAlpha c.1 && !(Unicode.isUpper c.1 || Unicode.isTitle c.1)) = decide (c.1 ∈ lettersN.cps.toList) := by decide +kernel
theorem low_lower : ∀ c : Fin 128, c.1 ∈ lettersN.cps.toList → Unicode.isLower c.1 = true ∧ Unicode.isAlpha c.1 = true := by decide +kernel
theorem low_lt : ∀ c ∈ lettersN.cps.toList, c < 128 := by decide +kernel
theorem arr_all (a : Array Nat) (p : Nat → Bool) : a.all p = a.toList.all p := by rw [Array.all_toList]
theorem arr_any (a : Array Nat) (p : Nat → Bool) : a.any p = a.toList.any p := by rw [Array.any_toList]
/-- ASCII letters without capitals are a to z -/
theorem isLow {z : Str} (hz : 1 ≤ z.length) : (Txt.isascii z && (Txt.isalpha z && Txt.islower z)) = z.cps.toList.all fun c => decide (c ∈ lettersN.cps.toList) := by
  unfold Txt.isascii Txt.isalpha Txt.islower
  rw [arr_all, arr_all, arr_any, arr_any]
  have hl : z.cps.toList.length = z.length := by simp [Str.length]
  have hp : decide (z.length > 0) = true := decide_eq_true (by omega)
  rw [hp, Bool.true_and]
  generalize z.cps.toList = l at hl
  rw [Bool.eq_iff_iff]
  simp only [Bool.and_eq_true, List.all_eq_true, List.any_eq_true, Bool.not_eq_true', List.any_eq_false, decide_eq_true_eq, Bool.or_eq_true, not_or, Bool.not_eq_true]
  constructor
  · rintro ⟨h1, h2, ⟨_, _⟩, h4⟩ c hc
    have := low_code ⟨c, h1 c hc⟩
    simp only [h2 c hc, Bool.true_and] at this
    obtain ⟨h5, h6⟩ := h4 c hc
    rw [h5, h6] at this
    exact of_decide_eq_true this.symm
  · intro h
    have f := fun c hc => low_lower ⟨c, low_lt c (h c hc)⟩ (h c hc)
    refine ⟨fun c hc => low_lt c (h c hc), fun c hc => (f c hc).2, ?_, fun c hc => ?_⟩
    · cases l with
      | nil => simp at hl; omega
      | cons a l => exact ⟨a, List.mem_cons_self, (f a List.mem_cons_self).1⟩
    · have := low_code ⟨c, low_lt c (h c hc)⟩
      rw [(f c hc).2, Bool.true_and, decide_eq_true (h c hc)] at this
      simpa using this
/-- z.isascii() and its like -/
theorem pe_isascii {X : Cx} {o : Expr} {to : TE} {apos pos : Pos} (ho : PE X o to)
    (hbase : attributeBase o "isascii" X.env (eval o X.env) = eval o X.env := by rfl) (hline : (apos.endLine == pos.line) = true := by rfl) :
    PE X (.Call (.Attribute o "isascii" apos) [] [] pos) (tM0 (fun x xs H Q => ∃ a, x = .str a ∧ xs = [] ∧ True ∧ Q (.bl (Txt.isascii a)) H) to) :=
  pe_m0 F.slot_str_isascii F.type_str_isascii mt_isascii ho hbase hline
theorem pe_isalpha {X : Cx} {o : Expr} {to : TE} {apos pos : Pos} (ho : PE X o to)
    (hbase : attributeBase o "isalpha" X.env (eval o X.env) = eval o X.env := by rfl) (hline : (apos.endLine == pos.line) = true := by rfl) :
    PE X (.Call (.Attribute o "isalpha" apos) [] [] pos) (tM0 (fun x xs H Q => ∃ a, x = .str a ∧ xs = [] ∧ True ∧ Q (.bl (Txt.isalpha a)) H) to) :=
  pe_m0 F.slot_str_isalpha F.type_str_isalpha mt_isalpha ho hbase hline
theorem pe_islower {X : Cx} {o : Expr} {to : TE} {apos pos : Pos} (ho : PE X o to)
    (hbase : attributeBase o "islower" X.env (eval o X.env) = eval o X.env := by rfl) (hline : (apos.endLine == pos.line) = true := by rfl) :
    PE X (.Call (.Attribute o "islower" apos) [] [] pos) (tM0 (fun x xs H Q => ∃ a, x = .str a ∧ xs = [] ∧ True ∧ Q (.bl (Txt.islower a)) H) to) :=
  pe_m0 F.slot_str_islower F.type_str_islower mt_islower ho hbase hline
end LF

set_option Elab.async false
set_option linter.all false
set_option maxRecDepth 100000
set_option maxHeartbeats 4000000
namespace LF
open PySem PySem.Spec PyProof.Rows L2
/-- a def of the text: its promise, its place, how it is bound -/
structure DefAt (P : Program) (w : World) (K : PySem.W.Frag) (mg : Str → Option Value) (base : Heap) (x : Str) (k : Nat) (f : Addr) (fd : FuncData) (ps : List Str) (sp : Sp) : Prop where
  F : FnOk P w K mg base CX0 k f fd ps sp
  g : mg x = some (.ref f)
  kp : PySem.W.keepIn K (.ref f) = true
  b : Binds K fd ps []
theorem pe_callD {X : Cx} {x : Str} {k : Nat} {f : Addr} {fd : FuncData} {ps : List Str} {sp : Sp} {p pos : Pos} {e : Expr} {es : List Expr} {t : TA}
    (D : DefAt X.prog X.w X.K X.mg X.base x k f fd ps sp) (hr : Room k X.A) (ha : PA X (e :: es) t) (hg : Gl X x := by rfl)
    (hdb : (x == ("__debug__" : Str)) = false := by decide)
    (he : starEach (e :: es) X.env = (false, eval e X.env) :: starEach es X.env := by rfl) (hpl : (backTo pos (starEach es X.env)).any (·.1) = false := by rfl) :
    PE X (.Call (.Name x p) (e :: es) [] pos) (tCall sp [] E0 t) := pe_call D.F hr hg D.g D.kp D.b .nil pass0 ha hdb he hpl

/-- x.rpartition(sep) -/
theorem mt_rpartition {X : Cx} : MtR X "str.rpartition" (fun x xs H Q => ∃ a b, x = .str a ∧ xs = [.str b] ∧ (b.length == 0) = false ∧ a.length ≤ sizeLine ∧
    ∀ p, H p = none → Q (.ref p) (upd H p (.tup [.str (Txt.rpartition a b).1, .str (Txt.rpartition a b).2.1, .str (Txt.rpartition a b).2.2]))) := by
  rintro pins s σ H x xs v us Q I rx rs ⟨a, b, rfl, rfl, hb, hz, h⟩
  obtain ⟨t, rfl⟩ := rx
  obtain ⟨u, rfl, t2, rfl⟩ := vals1 rs
  refine call_meets F.slot_str_rpartition (typeIs_str _ _ _) F.entry_str_rpartition (F.args_str_rpartition_2 _ _) (meets_str_rpartition a b t t2 hb hz) ?_
  unfold Txt.rpartition at h
  revert h
  cases Builtin.Str.lastOccurrence a b 0 a.length with
  | none => exact fun h => laid_parts I h
  | some i => exact fun h => laid_parts I h
theorem pe_rpartition {X : Cx} {o e : Expr} {to te : TE} {apos pos : Pos} (ho : PE X o to) (he : PE X e te) (hs : starEach [e] X.env = [(false, eval e X.env)] := by rfl)
    (hbase : attributeBase o "rpartition" X.env (eval o X.env) = eval o X.env := by rfl) (hline : (apos.endLine == pos.line) = true := by rfl) :
    PE X (.Call (.Attribute o "rpartition" apos) [e] [] pos) (tM1 (fun x xs H Q => ∃ a b, x = .str a ∧ xs = [.str b] ∧ (b.length == 0) = false ∧ a.length ≤ sizeLine ∧
      ∀ p, H p = none → Q (.ref p) (upd H p (.tup [.str (Txt.rpartition a b).1, .str (Txt.rpartition a b).2.1, .str (Txt.rpartition a b).2.2]))) to te) :=
  pe_m1 F.slot_str_rpartition F.type_str_rpartition mt_rpartition ho he hs hbase hline
end LF
namespace LF
theorem ifD {p : Prop} [Decidable p] {A B : Prop} (h1 : p → A) (h2 : ¬ p → B) : if decide p = true then A else B := by
  by_cases h : p
  · rw [if_pos (decide_eq_true h)]; exact h1 h
  · rw [if_neg (by rw [decide_eq_false h]; exact Bool.false_ne_true)]; exact h2 h
theorem ifN {p : Prop} [Decidable p] {A B : Prop} (h1 : p → B) (h2 : ¬ p → A) : if (!decide p) = true then A else B := by
  by_cases h : p
  · rw [if_neg (by rw [decide_eq_true h]; exact Bool.false_ne_true)]; exact h1 h
  · rw [if_pos (by rw [decide_eq_false h]; rfl)]; exact h2 h
end LF

set_option Elab.async false
set_option linter.all false
set_option maxRecDepth 100000
set_option maxHeartbeats 4000000
namespace LF
open PySem PySem.Spec PyProof.Rows L2
/-- all that was tracked but b is as it was -/
def Keep (b : Addr) (H H' : Hp) : Prop := ∀ a o, a ≠ b → H a = some o → H' a = some o
theorem Keep.refl (b : Addr) (H : Hp) : Keep b H H := fun _ _ _ e => e
theorem Keep.trans {b : Addr} {H H1 H2 : Hp} (x : Keep b H H1) (y : Keep b H1 H2) : Keep b H H2 := fun a o n e => y a o n (x a o n e)
theorem Same.keep {b : Addr} {H H' : Hp} (s : Same H H') : Keep b H H' := fun a o _ e => s a o e
theorem same_upd {H H' : Hp} {D : Addr} {o : HO} (hD : H D = none) (s : Same H H') : Same H (upd H' D o) := fun b u e => by
  rw [upd_ne (ne_of_none e hD)]; exact s b u e
theorem same_new {H : Hp} {D : Addr} {o : HO} (hD : H D = none) : Same H (upd H D o) := same_upd hD (Same.refl H)
theorem keep_upd {b : Addr} {H H' : Hp} {D : Addr} {o : HO} (hD : H D = none) (s : Keep b H H') : Keep b H (upd H' D o) := fun a u n e => by
  rw [upd_ne (ne_of_none e hD)]; exact s a u n e
theorem keep_put {b : Addr} {H H' : Hp} {o : HO} (s : Keep b H H') : Keep b H (upd H' b o) := fun a u n e => by
  rw [upd_ne n]; exact s a u n e
theorem Keep.free {b : Addr} {H H' : Hp} (s : Keep b H H') {D : Addr} (n : D ≠ b) (h : H' D = none) : H D = none := by
  cases q : H D with
  | none => rfl
  | some o => rw [s D o n q] at h; cases h
theorem keep_seq {b a : Addr} {H H' : Hp} {K : PySem.W.Frag} {xs : List V} (s : Keep b H H') (n : a ≠ b) (h : SqL K H a xs) : SqL K H' a xs := by
  rcases h with (h | ⟨o, h⟩) | h
  · exact Or.inl (Or.inl (s _ _ n h))
  · exact Or.inl (Or.inr ⟨o, s _ _ n h⟩)
  · exact Or.inr h

/-- the law's bag of draws -/
def BagAt (H : Hp) (b : Addr) : Prop := ∃ d x n : Int, H b = some (.lst [.int d, .int x, .int n]) ∧ 0 ≤ d ∧ 0 ≤ x ∧ x < 2147483647
theorem BagAt.keep {H H' : Hp} {b a : Addr} (h : BagAt H b) (s : Keep a H H') (n : b ≠ a) : BagAt H' b := by
  obtain ⟨d, x, m, e, r⟩ := h
  exact ⟨d, x, m, s _ _ n e, r⟩
theorem BagAt.same {H H' : Hp} {b : Addr} (h : BagAt H b) (s : Same H H') : BagAt H' b := by
  obtain ⟨d, x, m, e, r⟩ := h
  exact ⟨d, x, m, s _ _ e, r⟩
theorem BagAt.ne {H : Hp} {b D : Addr} (h : BagAt H b) (hD : H D = none) : D ≠ b := by
  obtain ⟨d, x, m, e, r⟩ := h
  exact Ne.symm (ne_of_none e hD)

section
variable {K : PySem.W.Frag} {a D b : Addr} {xs : List V} {tt : TT} {te : TE} {j : Nat} {σ : L2.St} {H : Hp} {Qd : Hp → Prop}
/-- a comprehension over a list, nothing tracked is changed: filter and map -/
theorem lc_filt (p : V → Bool) (f : V → V) (hD : H D = none) (hS : SqL K H a xs) (hlen : xs.length < sizeLine)
    (ht : ∀ x H1 (R : Bool → Hp → Prop), x ∈ xs → Same H H1 → (∀ H3, Same H1 H3 → R (p x) H3) → tt ((wipe σ [j]).set j (some x)) H1 R)
    (he : ∀ x H1 (R : V → Hp → Prop), x ∈ xs → p x = true → Same H H1 → (∀ H3, Same H1 H3 → R (f x) H3) → te ((wipe σ [j]).set j (some x)) H1 R)
    (hd : ∀ H', Same H H' → H' D = some (.lst ((xs.filter p).map f)) → Qd H') :
    ∃ W : Nat → Nat → Hp → Prop, (∃ m, W 0 m (upd H D (.lst []))) ∧ ∀ i m H, W i m H →
      ((Itl K a).stop i H ∧ Qd H) ∨ ((Itl K a).go i H ∧ ∃ Nx : Hp → Prop, (∀ H', Nx H' → ∃ m', m' < m ∧ W (i + 1) m' H') ∧ ∀ x H', (Itl K a).yld i H x H' → gName j x (wipe σ [j]) H' fun σ2 H2 => wipe σ2 [j] = wipe σ [j] ∧ tt σ2 H2 fun b H3 =>
        if b = true then te σ2 H3 fun y H4 => ∃ acc, H4 D = some (.lst acc) ∧ acc.length < sizeLine ∧ Nx (upd H4 D (.lst (acc ++ [y]))) else Nx H3) := by
  refine lc_list (Pv := fun i H' => Same H H' ∧ H' D = some (.lst (((xs.take i).filter p).map f))) ⟨same_new hD, upd_same⟩ (fun i H' _ h => sqL_same h.1 hS) ?_ ?_
  · rintro i x H1 hx ⟨sm, hd1⟩
    have hm := List.mem_of_getElem? hx
    have et : xs.take (i + 1) = xs.take i ++ [x] := by rw [List.take_add_one, hx]; rfl
    have hl : (((xs.take i).filter p).map f).length < sizeLine := by
      rw [List.length_map]
      have h1 : ((xs.take i).filter p).length ≤ (xs.take i).length := List.length_filter_le _ _
      have h2 : (xs.take i).length ≤ xs.length := by rw [List.length_take]; exact Nat.min_le_right _ _
      omega
    refine ⟨?_, ht x H1 _ hm sm fun H3 s3 => ?_⟩
    · show (wipe ((wipe σ [j]).set j (some x)) [j]) = wipe σ [j]
      show (((σ.set j none).set j (some x)).set j none) = σ.set j none
      simp
    · cases hp : p x with
      | true =>
        refine iteT (he x H3 _ hm hp (sm.trans s3) fun H4 s4 => ?_)
        refine ⟨_, s4 _ _ (s3 _ _ hd1), hl, same_upd hD ((sm.trans s3).trans s4), ?_⟩
        rw [upd_same, et, List.filter_append, List.map_append]
        simp [hp]
      | false =>
        refine iteF ⟨sm.trans s3, ?_⟩
        rw [s3 _ _ hd1, et, List.filter_append, List.map_append]
        simp [hp]
  · rintro H1 ⟨sm, hd1⟩
    rw [List.take_length] at hd1
    exact hd H1 sm hd1
/-- a comprehension over range(n) whose element draws from the bag at b -/
theorem lc_draw {lo : Int} {n : Nat} (Good : V → Prop) (hb : BagAt H b) (hD : H D = none) (hlen : n < sizeLine)
    (he : ∀ i H1 (R : V → Hp → Prop), i < n → Keep b H H1 → BagAt H1 b → (∀ y H3, Keep b H1 H3 → BagAt H3 b → Good y → R y H3) → te ((wipe σ [j]).set j (some (.int (lo + i)))) H1 R)
    (hd : ∀ H' acc, Keep b H H' → BagAt H' b → H' D = some (.lst acc) → acc.length = n → (∀ y ∈ acc, Good y) → Qd H') :
    ∃ W : Nat → Nat → Hp → Prop, (∃ m, W 0 m (upd H D (.lst []))) ∧ ∀ i m H, W i m H →
      ((Itr lo n).stop i H ∧ Qd H) ∨ ((Itr lo n).go i H ∧ ∃ Nx : Hp → Prop, (∀ H', Nx H' → ∃ m', m' < m ∧ W (i + 1) m' H') ∧ ∀ x H', (Itr lo n).yld i H x H' → gName j x (wipe σ [j]) H' fun σ2 H2 => wipe σ2 [j] = wipe σ [j] ∧ tYes σ2 H2 fun b H3 =>
        if b = true then te σ2 H3 fun y H4 => ∃ acc, H4 D = some (.lst acc) ∧ acc.length < sizeLine ∧ Nx (upd H4 D (.lst (acc ++ [y]))) else Nx H3) := by
  have nDb := hb.ne hD
  refine lc_range (Pv := fun i H' => Keep b H H' ∧ BagAt H' b ∧ ∃ acc, H' D = some (.lst acc) ∧ acc.length = i ∧ ∀ y ∈ acc, Good y)
    ⟨keep_upd hD (Keep.refl b H), hb.same (same_new hD), [], upd_same, rfl, fun _ h => nomatch h⟩ ?_ ?_
  · rintro i H1 hi ⟨kp, bg, acc, hacc, hl, hg⟩
    refine ⟨?_, ?_⟩
    · show (((σ.set j none).set j (some (V.int (lo + i)))).set j none) = σ.set j none
      simp
    · refine he i H1 _ hi kp bg fun y H3 k3 b3 gy => ?_
      have h3 := k3 D _ nDb hacc
      refine ⟨acc, h3, by omega, keep_upd hD (kp.trans k3), ?_, acc ++ [y], upd_same, by simp [hl], ?_⟩
      · obtain ⟨d, x, m, e, r⟩ := b3
        exact ⟨d, x, m, by rw [upd_ne nDb.symm]; exact e, r⟩
      · intro z hz
        rcases List.mem_append.mp hz with q | q
        · exact hg z q
        · rw [List.mem_singleton.mp q]; exact gy
  · rintro H1 ⟨kp, bg, acc, hacc, hl, hg⟩
    exact hd H1 acc kp bg hacc hl hg
end
end LF

set_option Elab.async false
set_option linter.all false
set_option maxRecDepth 100000
set_option maxHeartbeats 4000000
namespace KF
open PySem PySem.Spec PyProof.Rows L2 LF
def topS (i : Nat) : Stmt := PySem.Challenge.pw_linkfarms_k90_papers_by_hand.main.body.getD i (.Pass ⟨0, 0, 0, 0⟩)
def letters : Str := "abcdefghijklmnopqrstuvwxyz"
def isNm (z : Str) : Bool := decide (1 ≤ z.length ∧ z.length ≤ 8) && z.cps.toList.all fun c => decide (c ∈ letters.cps.toList)
/-- what the top has written, but the defs -/
structure Txt (K : PySem.W.Frag) (mg : Str → Option Value) (tk1 tk2 : Tok) : Prop where
  g_LONGEST_NAME : mg "LONGEST_NAME" = some (.int 8 tk2)
  n_isinstance : mg "isinstance" = none
  n_str : mg "str" = none
  n_len : mg "len" = none
  n_all : mg "all" = none
  n_any : mg "any" = none
  n_tuple : mg "tuple" = none
  n_list : mg "list" = none
  n_dict : mg "dict" = none
  n_sorted : mg "sorted" = none
  n_range : mg "range" = none
  n_abs : mg "abs" = none
  n_int : mg "int" = none
  n_bool : mg "bool" = none
  n_repr : mg "repr" = none
  n_max : mg "max" = none
  n_set : mg "set" = none
  n_min : mg "min" = none
  n_ValueError : mg "ValueError" = none
  n_OverflowError : mg "OverflowError" = none

def notStr : List String := ["NoneType", "int", "bool", "list", "tuple", "dict"]
def spName (K : PySem.W.Frag) : Sp := fun vs H Q _ => ∃ x, vs = [x] ∧
  ((∃ z : Str, x = .str z ∧ z.length ≤ 1000000 ∧ ∀ H', Same H H' → Q (.bl (isNm z)) H') ∨
   (∃ t, TyX K H x t ∧ PySem.W.kitOne K t (.type "str") = some false ∧ ∀ H', Same H H' → Q (.bl false) H'))

abbrev s_is_name : Stmt := topS 11
abbrev N_is_name : List Str := ["thing"]
theorem sc_is_name : FnScope ["thing"] ["thing"] (defScope s_is_name) := ⟨rfl, rfl, rfl, by decide +kernel, rfl, by decide +kernel, by decide +kernel⟩

theorem kit_no {K : PySem.W.Frag} {t : String} (h : t ∈ notStr) : PySem.W.kitOne K (.type t) (.type "str") = some false := by
  simp only [notStr, List.mem_cons, List.not_mem_nil, or_false] at h
  rcases h with rfl | rfl | rfl | rfl | rfl | rfl <;> exact kit_ty (by decide +kernel)
theorem kit_str {K : PySem.W.Frag} : PySem.W.kitOne K (.type "str") (.type "str") = some true := kit_ty (by decide +kernel)
section
variable {P : Program} {w : World} {K : PySem.W.Frag} {mg : Str → Option Value} {base : Heap} {tk1 tk2 : Tok}
theorem ok_is_name {f : Addr} {fd : FuncData} (F : Fun K "is_name" "is_name" s_is_name f fd) (T : Txt K mg tk1 tk2) : FnOk P w K mg base CX0 1 f fd ["thing"] (spName K) := by
  refine F.ok sc_is_name (fun vs H Q E h => ?_) (fun cdv A outer s H vs Q E hr h => ?_)
  · obtain ⟨x, rfl, _⟩ := h
    rfl
  refine ⟨_, (pss_one (ps_ret (pe_and (pe_callB call_isi (by rfl) T.n_isinstance (by decide +kernel) (pa_cons (pv 0) (pa_cons (pe_bltn (v := .ty "str") (by rfl) T.n_str (by decide +kernel) rfl) pa_nil))) (pe_and (pe_chain op_le op_le pe_int (pe_callB call_len_str (by rfl) T.n_len (by decide +kernel) (pa_cons (pv 0) pa_nil)) (pe_glob (v := .int 8) rfl T.g_LONGEST_NAME ⟨_, rfl⟩)) (pe_and (pe_isascii (pv 0)) (pe_and (pe_isalpha (pv 0)) (pe_one (pe_islower (pv 0))))))))), ?_⟩
  obtain ⟨x, rfl, h⟩ := h
  rcases h with ⟨z, rfl, hz, hq⟩ | ⟨t, ht, ty, hq⟩
  · refine ⟨_, rfl, _, .ty "str", _, _, true, rfl, .ty _, .base (.str _), kit_str, ?_⟩
    refine ⟨_, rfl, iteT ?_⟩
    have hl : z.length ≤ sizeLine := Nat.le_trans hz (by decide)
    have q0 := hq H (Same.refl H)
    have fin : isNm z = (decide (1 ≤ z.length ∧ z.length ≤ 8) && (PySem.Txt.isascii z && (PySem.Txt.isalpha z && PySem.Txt.islower z))) := by
      unfold isNm
      by_cases h1 : 1 ≤ z.length
      · rw [isLow h1]; rfl
      · rw [decide_eq_false (by omega)]; rfl
    rw [fin] at q0
    refine ⟨_, rfl, z, rfl, hl, _, _, rfl, rfl, _, rfl, ?_⟩
    refine ifD (fun h1 => ?_) (fun h1 => ?_)
    · refine ⟨_, _, rfl, rfl, _, rfl, ?_⟩
      refine ifD (fun h2 => ?_) (fun h2 => ?_)
      · rw [decide_eq_true (show 1 ≤ z.length ∧ z.length ≤ 8 by omega), Bool.true_and] at q0
        refine ⟨_, rfl, ⟨_, rfl⟩, z, rfl, rfl, trivial, _, rfl, ?_⟩
        cases e1 : PySem.Txt.isascii z with
        | false => rw [e1] at q0; exact iteF q0
        | true =>
          rw [e1, Bool.true_and] at q0
          refine iteT ⟨_, rfl, ⟨_, rfl⟩, z, rfl, rfl, trivial, _, rfl, ?_⟩
          cases e2 : PySem.Txt.isalpha z with
          | false => rw [e2] at q0; exact iteF q0
          | true =>
            rw [e2, Bool.true_and] at q0
            exact iteT ⟨_, rfl, ⟨_, rfl⟩, z, rfl, rfl, trivial, q0⟩
      · rw [decide_eq_false (by omega), Bool.false_and] at q0
        exact q0
    · rw [decide_eq_false (by omega), Bool.false_and] at q0
      refine ⟨_, rfl, ?_⟩
      exact q0
  · have q0 := hq H (Same.refl H)
    refine ⟨_, rfl, _, .ty "str", _, _, false, rfl, .ty _, ht, ty, ?_⟩
    exact ⟨_, rfl, iteF q0⟩
end
end KF

set_option Elab.async false
set_option linter.all false
set_option maxRecDepth 100000
set_option maxHeartbeats 4000000
namespace KF
open PySem PySem.Spec PyProof.Rows L2 LF
def c_sl : Str := "/"
def parts (z : Str) : List Str := if z = "" then [] else PySem.Txt.split z c_sl
def isPt (z : Str) : Bool := decide (z = "") || (PySem.Txt.split z c_sl).all isNm
/-- a value asked whether it is one: a text, or of another type -/
def isOk (K : PySem.W.Frag) (H : Hp) (x : V) (g : Str → Bool) (b : Bool) : Prop :=
  (∃ z : Str, x = .str z ∧ z.length ≤ 1000000 ∧ b = g z) ∨ ((∃ t, TyX K H x t ∧ PySem.W.kitOne K t (.type "str") = some false) ∧ b = false)
def spPath (K : PySem.W.Frag) : Sp := fun vs H Q _ => ∃ (x : V) (b : Bool), vs = [x] ∧ isOk K H x isPt b ∧ ∀ H', Same H H' → Q (.bl b) H'
def spCheck : Sp := fun vs H Q _ => ∃ z : Str, vs = [.str z] ∧ z.length ≤ 1000000 ∧ isPt z = true ∧ ∀ H', Same H H' → Q .non H'
def spSplit : Sp := fun vs H Q _ => ∃ z : Str, vs = [.str z] ∧ z.length ≤ 1000000 ∧ ∀ H' p, Same H H' → H p = none → H' p = some (.lst ((parts z).map V.str)) → Q (.ref p) H'
def spParent : Sp := fun vs H Q _ => ∃ z : Str, vs = [.str z] ∧ z.length ≤ 1000000 ∧ isPt z = true ∧ ∀ H', Same H H' → Q (if z = "" then .non else .str (PySem.Txt.rpartition z c_sl).1) H'
def keyD (z : Str) : PyData := .tuple [.int (parts z).length, .list ((parts z).map .str)]
def spKey (K : PySem.W.Frag) : Sp := fun vs H Q _ => ∃ z : Str, vs = [.str z] ∧ z.length ≤ 1000000 ∧ ∀ v H', Same H H' → Dp K H' v (keyD z) → Q v H'

abbrev s_is_path : Stmt := topS 12
abbrev N_is_path : List Str := ["thing", "part"]
theorem sc_is_path : FnScope ["thing", "part"] ["thing"] (defScope s_is_path) := ⟨rfl, rfl, rfl, by decide +kernel, rfl, by decide +kernel, by decide +kernel⟩
abbrev s_check_path : Stmt := topS 13
theorem sc_check_path : FnScope ["path"] ["path"] (defScope s_check_path) := ⟨rfl, rfl, rfl, by decide +kernel, rfl, by decide +kernel, by decide +kernel⟩
abbrev s_in_order : Stmt := topS 14
theorem sc_in_order : FnScope ["paths"] ["paths"] (defScope s_in_order) := ⟨rfl, rfl, rfl, by decide +kernel, rfl, by decide +kernel, by decide +kernel⟩
abbrev s_split_path : Stmt := topS 15
theorem sc_split_path : FnScope ["path"] ["path"] (defScope s_split_path) := ⟨rfl, rfl, rfl, by decide +kernel, rfl, by decide +kernel, by decide +kernel⟩
abbrev s_order_key : Stmt := topS 17
theorem sc_order_key : FnScope ["path", "parts"] ["path"] (defScope s_order_key) := ⟨rfl, rfl, rfl, by decide +kernel, rfl, by decide +kernel, by decide +kernel⟩

theorem str_dec (z y : Str) : decide (V.str z = V.str y) = decide (z = y) := by
  by_cases h : z = y
  · subst h; simp
  · rw [decide_eq_false h, decide_eq_false (fun e => h (V.str.inj e))]
theorem sl_ne : (c_sl.length == 0) = false := by decide +kernel
theorem parts_len (z : Str) (hz : z.length ≤ 1000000) : (parts z).length ≤ 1000002 := by
  unfold parts
  split
  · exact Nat.zero_le _
  · exact Nat.le_trans (split_le z c_sl) (by omega)
theorem sizeLine_big : 1000010 < sizeLine := by decide

section
variable {P : Program} {w : World} {K : PySem.W.Frag} {mg : Str → Option Value} {base : Heap} {tk1 tk2 : Tok}
theorem ok_is_path {f f1 : Addr} {fd fd1 : FuncData} (F : Fun K "is_path" "is_path" s_is_path f fd) (T : Txt K mg tk1 tk2) (d_is_name : DefAt P w K mg base "is_name" 1 f1 fd1 ["thing"] (spName K)) :
    FnOk P w K mg base CX0 2 f fd ["thing"] (spPath K) := by
  refine F.ok sc_is_path (fun vs H Q E h => ?_) (fun cdv A outer s H vs Q E hr h => ?_)
  · obtain ⟨x, b, rfl, _⟩ := h
    rfl
  refine ⟨_, (pss_cons (ps_if (pt_not (pt_val (pe_callB call_isi (by rfl) T.n_isinstance (by decide +kernel) (pa_cons (pv 0) (pa_cons (pe_bltn (v := .ty "str") (by rfl) T.n_str (by decide +kernel) rfl) pa_nil))))) (pss_one (ps_ret pe_bl)) pss_nil)
    (pss_one (ps_ret (pe_or (pe_cmpR op_eq (pv 0) pe_str (nomark _)) (pe_one (pe_callB (cr_all rfl) (by rfl) T.n_all (by decide +kernel) (pa_cons (pe_lc (own := [("part", 1)]) rfl sc_is_path.nd (pi_list (pe_split (pv 0) pe_str)) (blkOk_by (N := N_is_path) (sc := defScope s_is_path) (by decide +kernel)) (fun _ _ _ _ _ => pg_name (i := 1) sc_is_path.nd rfl (Or.inl rfl)) (fun _ _ _ _ _ => pts_nil) (fun _ _ _ _ _ => (pe_callD d_is_name (hr.mono (by decide)) (pa_cons (pv 1) pa_nil)))) pa_nil))))))), ?_⟩
  obtain ⟨x, b, rfl, hx, hq⟩ := h
  rcases hx with ⟨z, rfl, hz, rfl⟩ | ⟨⟨t, ty, ht⟩, rfl⟩
  rotate_left
  · refine ⟨_, rfl, _, .ty "str", _, _, false, rfl, .ty _, ty, ht, ?_⟩
    exact ⟨_, rfl, iteT (hq H (Same.refl H))⟩
  refine ⟨_, rfl, _, .ty "str", _, _, true, rfl, .ty _, .base (.str _), kit_str, _, rfl, iteF ?_⟩
  refine ⟨_, rfl, rfl, _, rfl, ?_⟩
  have hbig := sizeLine_big
  rw [str_dec]
  refine ifD (fun h1 => ?_) (fun h1 => ?_)
  · have := hq H (Same.refl H)
    unfold isPt at this
    rw [decide_eq_true h1] at this
    exact this
  · refine ⟨_, rfl, ⟨_, rfl⟩, z, c_sl, rfl, rfl, sl_ne, by omega, fun p hp => ?_⟩
    refine ⟨p, rfl, ⟨_, SqL.of upd_same⟩, fun D hD => ?_⟩
    refine lc_filt (xs := (PySem.Txt.split z c_sl).map V.str) (fun _ => true) (fun x => match x with | .str y => .bl (isNm y) | _ => .non) hD (SqL.of upd_same) ?_ (fun x H1 R _ sm hR => hR H1 (Same.refl H1)) ?_ ?_
    · rw [List.length_map]
      have := split_le z c_sl
      omega
    · intro x H1 R hx _ sm hR
      obtain ⟨y, hy, rfl⟩ := List.mem_map.mp hx
      refine ⟨_, rfl, _, rfl, Or.inl ⟨y, rfl, Nat.le_trans (part_short hy) hz, fun H' sm' => hR H' sm'⟩⟩
    · intro H2 sm hd
      refine ⟨D, (PySem.Txt.split z c_sl).map isNm, rfl, SqL.of ?_, ?_⟩
      · rw [hd, List.filter_eq_self.mpr (fun _ _ => rfl), List.map_map, List.map_map]; rfl
      · have := hq H2 ((same_new hp).trans sm)
        unfold isPt at this
        rw [decide_eq_false h1, Bool.false_or] at this
        rw [List.all_map]
        exact this
theorem ok_check_path {f f1 : Addr} {fd fd1 : FuncData} (F : Fun K "check_path" "check_path" s_check_path f fd) (d_is_path : DefAt P w K mg base "is_path" 2 f1 fd1 ["thing"] (spPath K)) :
    FnOk P w K mg base CX0 3 f fd ["path"] spCheck := by
  refine F.ok sc_check_path (fun vs H Q E h => ?_) (fun cdv A outer s H vs Q E hr h => ?_)
  · obtain ⟨x, rfl, _⟩ := h
    rfl
  refine ⟨_, (pss_one (ps_if (pt_not (pt_val (pe_callD d_is_path (hr.mono (by decide)) (pa_cons (pv 0) pa_nil)))) (pss_one ps_never) pss_nil)), ?_⟩
  obtain ⟨z, rfl, hz, hp, hq⟩ := h
  refine ⟨_, rfl, .str z, true, rfl, Or.inl ⟨z, rfl, hz, hp.symm⟩, fun H' sm => ⟨_, rfl, ?_⟩⟩
  exact iteF (hq H' sm)
theorem ok_split_path {f : Addr} {fd : FuncData} (F : Fun K "split_path" "split_path" s_split_path f fd) : FnOk P w K mg base CX0 1 f fd ["path"] spSplit := by
  refine F.ok sc_split_path (fun vs H Q E h => ?_) (fun cdv A outer s H vs Q E hr h => ?_)
  · obtain ⟨x, rfl, _⟩ := h
    rfl
  refine ⟨_, (pss_cons (ps_if (pt_cmpR op_eq (pv 0) pe_str (nomark _)) (pss_one (ps_ret (pe_lst pa_nil))) pss_nil) (pss_one (ps_ret (pe_split (pv 0) pe_str)))), ?_⟩
  obtain ⟨z, rfl, hz, hq⟩ := h
  have hbig := sizeLine_big
  refine ⟨_, rfl, rfl, _, rfl, ?_⟩
  rw [str_dec]
  refine ifD (fun h1 => ?_) (fun h1 => ?_)
  · refine ⟨Nat.zero_le _, fun p hp => hq _ p (same_new hp) hp ?_⟩
    rw [upd_same, parts, if_pos h1]; rfl
  · refine ⟨_, rfl, ⟨_, rfl⟩, z, c_sl, rfl, rfl, sl_ne, by omega, fun p hp => hq _ p (same_new hp) hp ?_⟩
    rw [upd_same, parts, if_neg h1]
theorem ok_order_key {f f1 : Addr} {fd fd1 : FuncData} (F : Fun K "order_key" "order_key" s_order_key f fd) (T : Txt K mg tk1 tk2) (d_split_path : DefAt P w K mg base "split_path" 1 f1 fd1 ["path"] spSplit) :
    FnOk P w K mg base CX0 2 f fd ["path"] (spKey K) := by
  refine F.ok sc_order_key (fun vs H Q E h => ?_) (fun cdv A outer s H vs Q E hr h => ?_)
  · obtain ⟨x, rfl, _⟩ := h
    rfl
  refine ⟨_, (pss_cons (ps_set (i := 1) sc_order_key.nd rfl (Or.inl rfl) (pe_callD d_split_path (hr.mono (by decide)) (pa_cons (pv 0) pa_nil)))
    (pss_one (ps_ret (pe_tup (pa_cons (pe_callB call_len_seq (by rfl) T.n_len (by decide +kernel) (pa_cons (pv 1) pa_nil)) (pa_cons (pv 1) pa_nil)))))), ?_⟩
  obtain ⟨z, rfl, hz, hq⟩ := h
  refine ⟨_, rfl, z, rfl, hz, fun H1 p s1 np hp1 => ?_⟩
  refine ⟨_, rfl, p, _, rfl, Or.inl (SqL.of hp1), _, rfl, (by show 2 ≤ sizeLine; decide), fun q hq1 => ?_⟩
  refine hq _ _ (s1.trans (same_new hq1)) ?_
  have npq : p ≠ q := ne_of_none hp1 hq1
  have dps : ∀ l : List Str, DpAll K (upd H1 q (.tup [.int ((List.map V.str (parts z)).length : Nat), .ref p])) (l.map V.str) (l.map .str) := by
    intro l
    induction l with
    | nil => exact .nil
    | cons a l ih => exact .cons (.str a) ih
  refine .tup (SqT.of upd_same) (.cons ?_ (.cons (.lst (SqL.of (by rw [upd_ne npq]; exact hp1)) (dps _)) .nil))
  rw [List.length_map]
  exact .int _
end
end KF

set_option Elab.async false
set_option linter.all false
set_option maxRecDepth 100000
set_option maxHeartbeats 4000000
namespace KF
open PySem PySem.Spec PyProof.Rows L2 LF
theorem isNm_len {z : Str} (h : isNm z = true) : 1 ≤ z.length ∧ z.length ≤ 8 := by
  unfold isNm at h
  rw [Bool.and_eq_true, decide_eq_true_eq] at h
  exact h.1
theorem sum_le {ss : List Str} {n : Nat} (h : ∀ s ∈ ss, s.length ≤ n) : (ss.map (·.length)).sum ≤ n * ss.length := by
  induction ss with
  | nil => simp
  | cons a l ih =>
    have h1 := h a List.mem_cons_self
    have h2 := ih fun s hs => h s (List.mem_cons_of_mem _ hs)
    rw [List.map_cons, List.sum_cons, List.length_cons, Nat.mul_succ]
    omega

def spOrder (K : PySem.W.Frag) : Sp := fun vs H Q _ => ∃ (a : Addr) (ws : List Str), vs = [.ref a] ∧ SqL K H a (ws.map V.str) ∧ (∀ x ∈ ws, x.length ≤ 1000000) ∧
  ∀ H' p, Same H H' → H p = none → H' p = some (.lst ((ws.mergeSort (PySem.W.dataLe false keyD)).map V.str)) → Q (.ref p) H'
theorem alike_strs : ∀ xs ys : List Str, PySem.W.alikeAll (xs.map .str) (ys.map .str) = true
  | [], _ => by simp [PySem.W.alikeAll]
  | _ :: _, [] => by simp [PySem.W.alikeAll]
  | x :: xs, y :: ys => by
    show PySem.W.alikeAll (.str x :: xs.map .str) (.str y :: ys.map .str) = true
    rw [PySem.W.alikeAll, alike_strs xs ys]
    simp [PySem.W.alike]
theorem key_alike (x y : Str) : PySem.W.alike (keyD x) (keyD y) = true := by
  show PySem.W.alikeAll [.int _, .list _] [.int _, .list _] = true
  rw [PySem.W.alikeAll, PySem.W.alikeAll, PySem.W.alikeAll]
  show (true && (PySem.W.alikeAll _ _ && true)) = true
  rw [alike_strs]; rfl
theorem depth_strs : ∀ xs : List Str, PyData.depthAll (xs.map .str) = 0
  | [] => by simp [PyData.depthAll]
  | x :: xs => by
    show PyData.depthAll (.str x :: xs.map .str) = 0
    rw [PyData.depthAll, depth_strs xs]
    simp [PyData.depth]
theorem key_depth (x : Str) : (keyD x).depth ≤ 60 := by
  unfold keyD
  simp [PyData.depth, PyData.depthAll, depth_strs]
section
variable {P : Program} {w : World} {K : PySem.W.Frag} {mg : Str → Option Value} {base : Heap} {tk1 tk2 : Tok}
theorem ok_in_order {f f1 : Addr} {fd fd1 : FuncData} (F : Fun K "in_order" "in_order" s_in_order f fd) (T : Txt K mg tk1 tk2) (d_order_key : DefAt P w K mg base "order_key" 2 f1 fd1 ["path"] (spKey K)) :
    FnOk P w K mg base CX0 5 f fd ["paths"] (spOrder K) := by
  refine F.ok sc_in_order (fun vs H Q E h => ?_) (fun cdv A outer s H vs Q E hr h => ?_)
  · obtain ⟨x, ws, rfl, _⟩ := h
    rfl
  refine ⟨_, (pss_one (ps_ret (pe_callBK (call_sortedF (kd := keyD) d_order_key.F hr d_order_key.b) (by rfl) T.n_sorted (by decide +kernel) (pa_cons (pv 0) pa_nil) (pk_cons (pe_glob (v := .ref f1) rfl d_order_key.g rfl) pk_nil)))), ?_⟩
  obtain ⟨a, ws, rfl, hs, hw, hq⟩ := h
  refine ⟨_, rfl, a, ws, rfl, rfl, hs, PySem.W.AllAlike.of key_alike, PySem.W.Sortable.tuples fun b => ⟨_, _, rfl⟩, ?_, ?_, ?_⟩
  · intro d hd
    obtain ⟨x, _, rfl⟩ := List.mem_map.mp hd
    exact key_depth x
  · intro x hx H1 sm Q1 h1
    exact ⟨x, rfl, hw x hx, fun v H' s' dp => h1 v H' s' dp⟩
  · intro H1 p sm hp
    exact hq _ p (sm.trans (same_new hp)) (sm.free hp) upd_same
end
end KF

set_option Elab.async false
set_option linter.all false
set_option maxRecDepth 100000
set_option maxHeartbeats 4000000
namespace LF
open PySem PySem.Spec PyProof.Rows L2
section
variable {prog : Program} {w : World} {A : Around} {E : Value → Shared → Prop} {s : Shared} {K : PySem.W.Frag} {x C f : Addr} {ox : Obj} {od : Option Obj}
/-- repr of an own instance below another: its own __repr__ -/
theorem under_own {b : Nat} {Q : Value → Shared → Prop} (hu : A.units < cLine) (X : K.In s.heap) (I : PySem.W.InstAt s.heap x ox C od) (hs : PySem.W.findIn K (.ref C) "__repr__" = some (some (.ref f))) (hf : PySem.W.isFn K (.ref f) = true)
    (h : wpAny (model prog w) A (call (.ref f) [.ref x]) (fun v s' => ∃ m tk, v = .str m tk ∧ Q v s') E s) : wpAny (model prog w) A (pyReprObjUnder b (.ref x)) Q E s := by
  unfold pyReprObjUnder pyReprObjBy
  refine wpAny_bind (wpAny_cRoomFor hu ?_)
  refine wpAny_bind (wpAny_bind (I.type.here ((PySem.W.looks_findIn X hs).here ?_)))
  show wpAny _ _ (if (some (Value.ref f)).isNone = true then _ else _) _ _ _
  rw [if_neg (by simp)]
  have fin : wpAny (model prog w) A (call (.ref f) ([.ref x] ++ []) >>= fun v => pure (some v)) (fun r s' => wpAny (model prog w) A (match r with
      | some r => do if ← isInstance r (.type "str") then pure r else raiseError "TypeError" s!"__repr__ returned non-string (type {← typeNameOf r})"
      | none => unsupported "repr:special-get-raises") Q E s') E s := by
    refine wpAny_bind (wpAny_mono h (fun v s' hv => ?_) fun _ _ z => z)
    obtain ⟨m, tk, rfl, q⟩ := hv
    exact wpAny_pure (wpAny_bind (wpAny_isInstance (T := "str") (b := true) (typeIs_str _ _ _) isSubtype_str_str (wpAny_pure q)))
  refine wpAny_bind ?_
  simp only [callSpecialIfBoundBy?, bindSpecialIfBound?]
  refine wpAny_holding (wpAny_bind (wpAny_bind (wpAny_bind (I.type.here ((PySem.W.looks_findIn X hs).here ?_)))))
  refine wpAny_bind (wpAny_askSetting (wpAny_ite ?_))
  split
  · exact wpAny_bind ((PySem.W.bind_fn X _ (beq_iff_eq.mp hf)).here (wpAny_pure (by exact fin)))
  · exact wpAny_tryCatch (wpAny_bind ((PySem.W.bind_fn X _ (beq_iff_eq.mp hf)).here (wpAny_pure (by exact fin))))
end
theorem Room.guard {k : Nat} {A : Around} (r : Room (k + 1) A) (args : Args) : Room k (A.under (.builtin "tuple.__repr__" args)) := by
  have hd : (A.under (.builtin "tuple.__repr__" args)).depth ≤ A.depth + 1 := by
    first
      | exact Nat.le_refl _
      | exact Nat.le_succ _
      | simp [Around.under, Code.weight, Code.isCreation, Code.isGuard, Code.isCaller, Code.frames, Code.isFrame, guardIds]
  refine ⟨r.hd, by have := r.dp; omega, ?_⟩
  have := r.un
  rw [units_under_tuple_repr]
  omega
theorem Env0.guard {P : Program} {w : World} {K : PySem.W.Frag} {mg : Str → Option Value} {base : Heap} {A : Around} {outer : List Env} {s : Shared} {H : Hp} (e : Env0 P w K mg base A outer s H) (args : Args) :
    Env0 P w K mg base (A.under (.builtin "tuple.__repr__" args)) outer s H := ⟨by first | exact e.frames | (simpa [Around.under, Code.envs, Code.isFrame, pushEnvs] using e.frames), e.mod, e.bs, e.bsz, e.funs, e.frf, e.hok, e.bare⟩
/-- repr((text, x)), x an own instance of the class at C whose __repr__ tells txt and leaves what is tracked -/
def rReprTO (K : PySem.W.Frag) (C : Addr) (sp : Sp) (txt : Str) : List V → Hp → VK → Prop := fun xs H Q => ∃ (a x dx : Addr) (z : Str) (fs : List (Str × V)), xs = [.ref a] ∧ SqT K H a [.str z, .ref x] ∧ H x = some (.ins C dx fs) ∧
  (reprText z).length ≤ 1000 ∧ (∀ Q1 : VK, (∀ H1, Same H H1 → Q1 (.str txt) H1) → sp [.ref x] H Q1 E0) ∧ ∀ H', Same H H' → Q (.str (tupleText [reprText z, txt])) H'
theorem sizeLine_1m : 1000010 < sizeLine := by decide
section
variable {X : Cx} {k : Nat} {f C : Addr} {fd : FuncData} {sp : Sp} {txt : Str} {px : Str}
theorem call_reprTO (gd : X.A.guards = some []) (G : FnOk X.prog X.w X.K X.mg X.base CX0 k f fd [px] sp) (hr : Room (k + 3) X.A) (hb : Binds X.K fd [px] [])
    (hs : PySem.W.findIn X.K (.ref C) "__repr__" = some (some (.ref f))) (hf : PySem.W.isFn X.K (.ref f) = true) (hl : txt.length ≤ 1000) :
    CallR X (.builtin "repr") (rReprTO X.K C sp txt) := by
  intro pins s σ H xs us Q I r h
  obtain ⟨a, x, dx, z, fs, rfl, ht, hx, hz, hsp, hq⟩ := h
  rw [Vals.ref1 r]
  have hbig := sizeLine_1m
  obtain ⟨its, rv, ⟨o, ho, hcls, n, hd⟩, _⟩ := I.tuple ht
  cases rv with
  | cons r1 rv =>
  cases rv with
  | cons r2 rv =>
  cases rv with
  | nil =>
  rename_i u1 u2
  obtain ⟨tk1, rfl⟩ := r1
  cases r2
  obtain ⟨mA, O, _, _, _, _⟩ := ins_get I.hok hx
  obtain ⟨od, J, _⟩ := O.look
  have hu := hr.un
  refine call_repr_slot (by omega) ⟨o, ho, hcls⟩ F.slot_tuple_repr ?_
  refine wpAny_call (codeAny_call_builtin_own (Code.quiet_builtin _ (by decide +kernel)) F.entry_tuple_repr (F.slot_tuple_repr.check _ _ _ _ _ _ _ _ ⟨o, ho, hcls⟩ (F.args_tuple_repr_1 _) ?_))
  show wpOwn _ _ _ (Builtin.tupleReprAt 0 ⟨[.ref a], []⟩) _ _ _
  rw [tuple_repr_tree, tupleReprUnderWay_eq]
  refine wpOwn_bind (wpOwn_stackTailAny (g := []) gd (tupGuardF_off _) (tupGuardF_pos _) ?_)
  show wpOwn _ _ _ (if false = true then _ else _) _ _ _
  rw [if_neg Bool.false_ne_true]
  refine wpOwn_of_wpAny ?_
  unfold tupleReprRest Builtin.Tuple.tupleItemsOf
  refine wpAny_bind (wpAny_bind (wpAny_seqItems ho hd (wpAny_pure ?_)))
  rw [← Array.forIn_toList]
  refine wpAny_bind ?_
  show wpAny _ _ (forIn [Value.str z tk1, Value.ref x] _ tupBody) _ _ _
  rw [List.forIn_cons]
  refine wpAny_bind (wpAny_bind (ReprIs.str z tk1 (by omega) 1 (by omega) _ _ _ _ fun tk => wpAny_pure ?_))
  show wpAny _ _ (forIn [Value.ref x] _ tupBody) _ _ _
  rw [List.forIn_cons]
  have I2 := I.tok tk
  have hr' : Room (k + 1) (X.A.in1.under (.builtin "tuple.__repr__" ⟨[.ref a], []⟩)) := Room.guard hr.in1 _
  have b' := hb { s with toks := tk } [.ref x] I2.kIn rfl
  rw [List.append_nil] at b'
  refine wpAny_bind (wpAny_bind (wpAny_pyReprUnder_ref (by show 0 + ((reprText z).length + 2) + 1 ≤ sizeLine; omega) (under_own (by have := hr'.un; omega) I2.kIn J hs hf ?_)))
  have run := G.run _ X.stack { s with toks := tk } H ⟨[.ref x], []⟩ [.ref x] [.ref x] _ E0 (hr'.mono (Nat.le_succ k)) (Env0.guard I2.env0.in1 _) b' (.cons rfl .nil) (hsp (fun v H1 => v = .str txt ∧ Same H H1) fun H1 s1 => ⟨rfl, s1⟩)
  refine wpAny_call (codeAny_mono run ?_)
  intro rr s2 hq2
  cases rr with
  | error e => exact hq2.elim
  | ok fl =>
    cases fl with
    | next => exact hq2.elim
    | brk => exact hq2.elim
    | cont => exact hq2.elim
    | ret u =>
      obtain ⟨y, H2, J2, ry, ey, sm2⟩ := I2.after hq2
      subst ey
      obtain ⟨tk2, rfl⟩ := ry
      refine ⟨txt, tk2, rfl, txt, tk2, rfl, wpAny_pure ?_⟩
      show wpAny _ _ (forIn [] _ tupBody) _ _ _
      rw [List.forIn_nil]
      refine wpAny_pure ?_
      refine wpAny_bind (wpAny_mkStr (wpAny_pure ?_) ?_)
      · exact ⟨_, _, rfl, .str (tupleText [reprText z, txt]), H2, J2.tok _, ⟨_, rfl⟩, hq H2 sm2⟩
      · show (tupleText [reprText z, txt]).length ≤ sizeLine
        have e : tupleText [reprText z, txt] = ("(" : Str) ++ (reprText z ++ ", " ++ txt) ++ ")" := rfl
        have e1 : ((("(" : String) : Str)).length = 1 := rfl
        have e2 : (((", " : String) : Str)).length = 2 := rfl
        have e3 : (((")" : String) : Str)).length = 1 := rfl
        rw [e, strLen_append, strLen_append, strLen_append, strLen_append, e1, e2, e3]
        omega
end
end LF

set_option Elab.async false
set_option linter.all false
set_option maxRecDepth 100000
set_option maxHeartbeats 4000000
namespace LF
open PySem PySem.Spec PyProof.Rows L2
/-- None, bools, ints, texts -/
def isAtom : V → Bool
  | .non => true
  | .bl _ => true
  | .int _ => true
  | .str _ => true
  | _ => false
def atomD : V → PyData
  | .bl b => .bool b
  | .int i => .int i
  | .str x => .str x
  | _ => .none
def kD : Key → PyData
  | .inl i => .int i
  | .inr x => .str x
theorem reads_atom {h : Heap} : ∀ {v : V} {u : Value}, isAtom v = true → RelV v u → Reads h u (atomD v) []
  | .non, _, _, r => by cases r; exact Reads.none
  | .bl b, _, _, r => by cases r; exact Reads.bool b
  | .int i, _, _, r => by obtain ⟨t, rfl⟩ := r; exact Reads.int i t
  | .str x, _, _, r => by obtain ⟨t, rfl⟩ := r; exact Reads.str x t
  | .ref _, _, a, _ => nomatch a
  | .flt _, _, a, _ => nomatch a
  | .byt _, _, a, _ => nomatch a
  | .ty _, _, a, _ => nomatch a
theorem reads_key {h : Heap} {k : Key} {v : Value} (e : keyIs k v = true) : Reads h v (kD k) [] := by
  rcases keyIs_shape e with ⟨i, t, rfl, rfl⟩ | ⟨x, t, rfl, rfl⟩
  · exact Reads.int i t
  · exact Reads.str x t
theorem reads_pairs {P : Program} {w : World} {h : Heap} : ∀ {es : List DictEntry} {vs : List (Key × Value)} {kvs : List (Key × V)}, Pairs (mixKind P w) es vs → KV kvs vs → (∀ q ∈ kvs, isAtom q.2 = true) →
    ReadsAll h (es.map (·.key)) (kvs.map fun q => kD q.1) [] ∧ ReadsAll h (es.map (·.val)) (kvs.map fun q => atomD q.2) []
  | _, _, _, .nil, .nil, _ => ⟨.nil, .nil⟩
  | _, _, _, .cons (e := e) (kv := kv) h1 h2 t, .cons (a := q) r rs, ha => by
    obtain ⟨i1, i2⟩ := reads_pairs (h := h) t rs fun q hq => ha q (List.mem_cons_of_mem _ hq)
    obtain ⟨e1, e2⟩ := r
    have k1 : Reads h e.key (kD q.1) [] := by rw [e1]; exact reads_key h1
    have k2 : Reads h e.val (atomD q.2) [] := by rw [h2]; exact reads_atom (ha q List.mem_cons_self) e2
    exact ⟨ReadsAll.cons k1 i1, ReadsAll.cons k2 i2⟩
def dictD (kvs : List (Key × V)) : PyData := .dict (kvs.map fun q => (kD q.1, atomD q.2))
theorem reads_dict {P : Program} {w : World} {H : Hp} {h : Heap} {p : Addr} {kvs : List (Key × V)} (ok : HOk P w H h) (e : H p = some (.dK kvs)) (ha : ∀ q ∈ kvs, isAtom q.2 = true) :
    Reads h (.ref p) (dictD kvs) [p] ∧ (p == sysModules) = false := by
  obtain ⟨_, lo, vs, rel, o, es, ep, ho, hx, hd, _, hp, _⟩ := dk_of ok e
  obtain ⟨i1, i2⟩ := reads_pairs (h := h) hp rel ha
  refine ⟨?_, lo⟩
  have := Reads.dict (kvs := kvs.map fun q => (kD q.1, atomD q.2)) ho hx.1 hd (by rw [List.map_map]; exact i1) (by rw [List.map_map]; exact i2)
  exact this
/-- repr((text, d)), d a dict of ints, texts and None -/
def rReprTD (K : PySem.W.Frag) : List V → Hp → VK → Prop := fun xs H Q => ∃ (a p : Addr) (z : Str) (kvs : List (Key × V)), xs = [.ref a] ∧ SqT K H a [.str z, .ref p] ∧ H p = some (.dK kvs) ∧ (∀ q ∈ kvs, isAtom q.2 = true) ∧
  (PyData.tuple [.str z, dictD kvs]).showable = true ∧ (PyData.tuple [.str z, dictD kvs]).depth ≤ 60 ∧ (PyData.tuple [.str z, dictD kvs]).shown.length ≤ sizeLine ∧ Q (.str (PyData.tuple [.str z, dictD kvs]).shown) H
theorem call_reprTD {X : Cx} (gd : X.A.guards = some []) (hu : X.A.units + 64 < cLine) : CallR X (.builtin "repr") (rReprTD X.K) := by
  intro pins s σ H xs us Q I r h
  obtain ⟨a, p, z, kvs, rfl, ht, hp, ha, hs, hdp, hz, q⟩ := h
  rw [Vals.ref1 r]
  obtain ⟨its, rv, ⟨o, ho, hcls, n, hd⟩, _⟩ := I.tuple ht
  cases rv with
  | cons r1 rv =>
  cases rv with
  | cons r2 rv =>
  cases rv with
  | nil =>
  rename_i u1 u2
  obtain ⟨tk1, rfl⟩ := r1
  cases r2
  obtain ⟨rd, lo⟩ := reads_dict I.hok hp ha
  have R : Reads s.heap (.ref a) (.tuple [.str z, dictD kvs]) ([] ++ ([p] ++ [])) := Reads.tuple ho hcls hd (ReadsAll.cons (Reads.str z tk1) (ReadsAll.cons rd ReadsAll.nil))
  refine repr_of_reads' R hs (fun _ hm => ?_) gd (by omega) (fun _ _ e => e) (fun h' u tk hk => ⟨.str _, H, I.kept (t' := tk) hk, ⟨_, rfl⟩, q⟩) hz
  have : sysModules = p := by simpa using hm
  rw [this] at lo
  simp at lo
end LF

set_option Elab.async false
set_option linter.all false
set_option maxRecDepth 100000
set_option maxHeartbeats 4000000
namespace LF
open PySem PySem.Spec PyProof.Rows L2
theorem fold_reps (a : Array Nat) : ∀ (k : Nat) (acc : Array Nat), ((List.replicate k a).foldl (· ++ ·) acc).size = acc.size + k * a.size ∧ ∀ c ∈ ((List.replicate k a).foldl (· ++ ·) acc).toList, c ∈ acc.toList ∨ c ∈ a.toList
  | 0, acc => ⟨by simp, fun c hc => Or.inl hc⟩
  | k + 1, acc => by
    obtain ⟨h1, h2⟩ := fold_reps a k (acc ++ a)
    rw [List.replicate_succ, List.foldl_cons]
    refine ⟨by rw [h1, Array.size_append, Nat.succ_mul]; omega, fun c hc => ?_⟩
    rcases h2 c hc with q | q
    · rw [Array.toList_append] at q
      exact List.mem_append.mp q
    · exact Or.inr q
theorem mul_len {z : Str} {n : Int} (h : 1 ≤ n) : (Txt.mul z n).length = z.length * n.toNat ∧ ∀ c ∈ (Txt.mul z n).cps.toList, c ∈ z.cps.toList := by
  unfold Txt.mul
  rw [if_neg (by omega)]
  split
  · rename_i hc
    rw [Bool.or_eq_true, beq_iff_eq, beq_iff_eq] at hc
    refine ⟨?_, fun c hc => hc⟩
    rcases hc with e | e
    · subst e; simp
    · rw [e]; simp
  · obtain ⟨h1, h2⟩ := fold_reps z.cps n.toNat #[]
    refine ⟨?_, fun c hc => ?_⟩
    · show ((List.replicate n.toNat z.cps).foldl (· ++ ·) #[]).size = z.cps.size * n.toNat
      rw [h1, Nat.mul_comm]; simp
    · rcases h2 c hc with q | q
      · simp at q
      · exact q
/-- a text times an int -/
def rMulS : R2 := fun x y H Q => ∃ (z : Str) (n : Int), x = .str z ∧ y = .int n ∧ 1 ≤ n ∧ n ≤ 1000 ∧ z.length ≤ 1000 ∧ ∀ r : Str, r.length = z.length * n.toNat → (∀ c ∈ r.cps.toList, c ∈ z.cps.toList) → Q (.str r) H
theorem op_mulS {X : Cx} : OpR X (binaryOp .Mult) rMulS := by
  intro pins s σ H x y v u Q I rx ry h
  obtain ⟨z, n, rfl, rfl, h1, h2, h3, q⟩ := h
  obtain ⟨t, rfl⟩ := rx
  obtain ⟨t', rfl⟩ := ry
  obtain ⟨l1, l2⟩ := mul_len (z := z) h1
  have hm : z.length * n.toNat ≤ 1000 * 1000 := Nat.mul_le_mul h3 (by omega)
  refine SB.mul ⟨?_, fun _ _ => ?_, fun _ _ => ?_⟩ fun t' k => ⟨.str _, H, I.tok _, ⟨_, rfl⟩, q _ l1 l2⟩
  · rw [decide_eq_false (by omega), decide_eq_false (by omega)]; rfl
  · have : (1000 : Int) ≤ (2 ^ 63 - 1) / n := Int.le_ediv_of_mul_le (by omega) (by omega)
    omega
  · have hs : 1000 * 1000 ≤ sizeLine := by decide
    have : ¬ (z.length * n.toNat > sizeLine) := by omega
    unfold Builtin.Str.tooLong
    exact decide_eq_false this
end LF

set_option Elab.async false
set_option linter.all false
set_option maxRecDepth 100000
set_option maxHeartbeats 4000000
namespace LF
open PySem PySem.Spec PyProof.Rows L2
/-- code that is never come to -/
theorem pe_never {X : Cx} {e : Expr} : PE X e (fun _ _ _ => False) := ⟨fun _ _ _ _ _ _ h => h.elim⟩
theorem pt_never {X : Cx} {e : Expr} : PT X e (fun _ _ _ => False) := ⟨fun _ _ _ _ _ _ h => h.elim⟩
end LF
namespace KF
open PySem PySem.Spec PyProof.Rows L2 LF
def digs : Str := "0123456789"
/-- further constants that the top has written -/
structure Nums (K : PySem.W.Frag) (mg : Str → Option Value) : Prop where
  names : ∃ tk, mg "MOST_NAMES" = some (.int 10 tk)
  tnames : ∃ tk, mg "MOST_TARGET_NAMES" = some (.int 8 tk)
  great : ∃ tk, mg "GREATEST_CONTENT" = some (.int 999999999999 tk)
def contentV : V → Bool
  | .int i => decide ((if i < 0 then -i else i) ≤ 999999999999)
  | _ => false
def isTg (t : Str) : Bool := isPt t && decide ((parts t).length ≤ 8)
def isPl (t : Str) : Bool := isPt t && decide (1 ≤ (parts t).length ∧ (parts t).length ≤ 10)
def targetV : V → Bool
  | .str t => isTg t
  | _ => false
def itemV : V → Bool
  | .non => true
  | v => contentV v || targetV v
/-- None, an int, a text -/
def Plain (v : V) : Prop := v = .non ∨ (∃ i, v = .int i) ∨ ∃ z : Str, v = .str z ∧ z.length ≤ 1000000
def spV (g : V → Bool) : Sp := fun vs H Q _ => ∃ x, vs = [x] ∧ Plain x ∧ ∀ H', Same H H' → Q (.bl (g x)) H'
def spS (g : Str → Bool) : Sp := fun vs H Q _ => ∃ z : Str, vs = [.str z] ∧ z.length ≤ 1000000 ∧ ∀ H', Same H H' → Q (.bl (g z)) H'
abbrev s_is_integer : Stmt := topS 35
theorem sc_is_integer : FnScope ["thing"] ["thing"] (defScope s_is_integer) := ⟨rfl, rfl, rfl, by decide +kernel, rfl, by decide +kernel, by decide +kernel⟩
def integerV : V → Bool
  | .int _ => true
  | _ => false
abbrev s_is_content : Stmt := topS 40
theorem sc_is_content : FnScope ["thing"] ["thing"] (defScope s_is_content) := ⟨rfl, rfl, rfl, by decide +kernel, rfl, by decide +kernel, by decide +kernel⟩
abbrev s_is_target : Stmt := topS 41
theorem sc_is_target : FnScope ["thing"] ["thing"] (defScope s_is_target) := ⟨rfl, rfl, rfl, by decide +kernel, rfl, by decide +kernel, by decide +kernel⟩
abbrev s_is_place : Stmt := topS 42
theorem sc_is_place : FnScope ["thing"] ["thing"] (defScope s_is_place) := ⟨rfl, rfl, rfl, by decide +kernel, rfl, by decide +kernel, by decide +kernel⟩
abbrev s_is_item : Stmt := topS 43
theorem sc_is_item : FnScope ["thing"] ["thing"] (defScope s_is_item) := ⟨rfl, rfl, rfl, by decide +kernel, rfl, by decide +kernel, by decide +kernel⟩
theorem plain_ok {K : PySem.W.Frag} {H : Hp} {x : V} (h : Plain x) : isOk K H x isPt (match x with | .str z => isPt z | _ => false) := by
  rcases h with rfl | ⟨i, rfl⟩ | ⟨z, rfl, hz⟩
  · exact Or.inr ⟨⟨_, .base .non, kit_no (t := "NoneType") (by simp [notStr])⟩, rfl⟩
  · exact Or.inr ⟨⟨_, .base (.int i), kit_no (t := "int") (by simp [notStr])⟩, rfl⟩
  · exact Or.inl ⟨z, rfl, hz, rfl⟩
section
variable {P : Program} {w : World} {K : PySem.W.Frag} {mg : Str → Option Value} {base : Heap} {tk1 tk2 : Tok}
theorem ok_is_integer {f : Addr} {fd : FuncData} (F : Fun K "is_integer" "is_integer" s_is_integer f fd) (T : Txt K mg tk1 tk2) : FnOk P w K mg base CX0 1 f fd ["thing"] (spV integerV) := by
  refine F.ok sc_is_integer (fun vs H Q E h => ?_) (fun cdv A outer s H vs Q E hr h => ?_)
  · obtain ⟨x, rfl, _⟩ := h
    rfl
  refine ⟨_, (pss_one (ps_ret (pe_and (pe_callB call_isi (by rfl) T.n_isinstance (by decide +kernel) (pa_cons (pv 0) (pa_cons (pe_bltn (v := .ty "int") (by rfl) T.n_int (by decide +kernel) rfl) pa_nil))) (pe_one (pe_not (pe_callB call_isi (by rfl) T.n_isinstance (by decide +kernel) (pa_cons (pv 0) (pa_cons (pe_bltn (v := .ty "bool") (by rfl) T.n_bool (by decide +kernel) rfl) pa_nil)))))))), ?_⟩
  obtain ⟨x, rfl, hx, hq⟩ := h
  rcases hx with rfl | ⟨i, rfl⟩ | ⟨z, rfl, hz⟩
  · refine ⟨_, rfl, _, .ty "int", _, _, false, rfl, .ty _, .base .non, kit_ty (by decide +kernel), ?_⟩
    exact ⟨_, rfl, iteF (hq H (Same.refl H))⟩
  · refine ⟨_, rfl, _, .ty "int", _, _, true, rfl, .ty _, .base (.int i), kit_ty (by decide +kernel), ?_⟩
    refine ⟨_, rfl, iteT ?_⟩
    refine ⟨_, rfl, _, .ty "bool", _, _, false, rfl, .ty _, .base (.int i), kit_ty (by decide +kernel), ?_⟩
    exact ⟨_, rfl, hq H (Same.refl H)⟩
  · refine ⟨_, rfl, _, .ty "int", _, _, false, rfl, .ty _, .base (.str z), kit_ty (by decide +kernel), ?_⟩
    exact ⟨_, rfl, iteF (hq H (Same.refl H))⟩
theorem ok_is_content {f f1 : Addr} {fd fd1 : FuncData} (F : Fun K "is_content" "is_content" s_is_content f fd) (T : Txt K mg tk1 tk2) (N : Nums K mg) (d_int : DefAt P w K mg base "is_integer" 1 f1 fd1 ["thing"] (spV integerV)) : FnOk P w K mg base CX0 2 f fd ["thing"] (spV contentV) := by
  obtain ⟨tg, hg⟩ := N.great
  refine F.ok sc_is_content (fun vs H Q E h => ?_) (fun cdv A outer s H vs Q E hr h => ?_)
  · obtain ⟨x, rfl, _⟩ := h
    rfl
  refine ⟨_, (pss_one (ps_ret (pe_and (pe_callD d_int (hr.mono (by decide)) (pa_cons (pv 0) pa_nil)) (pe_one (pe_cmpR op_le (pe_callB call_abs (by rfl) T.n_abs (by decide +kernel) (pa_cons (pv 0) pa_nil)) (pe_glob (v := .int 999999999999) rfl hg ⟨_, rfl⟩) (nomark _)))))), ?_⟩
  obtain ⟨x, rfl, hx, hq⟩ := h
  refine ⟨_, rfl, x, rfl, hx, fun H1 s1 => ⟨_, rfl, ?_⟩⟩
  rcases hx with rfl | ⟨i, rfl⟩ | ⟨z, rfl, hz⟩
  · exact iteF (hq H1 s1)
  · exact iteT ⟨_, rfl, _, rfl, _, _, rfl, rfl, hq H1 s1⟩
  · exact iteF (hq H1 s1)
theorem ok_is_target {f f1 f2 : Addr} {fd fd1 fd2 : FuncData} (F : Fun K "is_target" "is_target" s_is_target f fd) (T : Txt K mg tk1 tk2) (N : Nums K mg) (d_is_path : DefAt P w K mg base "is_path" 2 f1 fd1 ["thing"] (spPath K)) (d_split : DefAt P w K mg base "split_path" 1 f2 fd2 ["path"] spSplit) :
    FnOk P w K mg base CX0 3 f fd ["thing"] (spV targetV) := by
  obtain ⟨tg, hg⟩ := N.tnames
  refine F.ok sc_is_target (fun vs H Q E h => ?_) (fun cdv A outer s H vs Q E hr h => ?_)
  · obtain ⟨x, rfl, _⟩ := h
    rfl
  refine ⟨_, (pss_one (ps_ret (pe_and (pe_callD d_is_path (hr.mono (by decide)) (pa_cons (pv 0) pa_nil)) (pe_one (pe_cmpR op_le (pe_callB call_len_seq (by rfl) T.n_len (by decide +kernel) (pa_cons (pe_callD d_split (hr.mono (by decide)) (pa_cons (pv 0) pa_nil)) pa_nil)) (pe_glob (v := .int 8) rfl hg ⟨_, rfl⟩) (nomark _)))))), ?_⟩
  obtain ⟨x, rfl, hx, hq⟩ := h
  refine ⟨_, rfl, x, _, rfl, plain_ok hx, fun H1 s1 => ⟨_, rfl, ?_⟩⟩
  rcases hx with rfl | ⟨i, rfl⟩ | ⟨z, rfl, hz⟩
  · exact iteF (hq H1 s1)
  · exact iteF (hq H1 s1)
  · have hfin : ∀ b : Bool, isTg z = b → ∀ H', Same H H' → Q (.bl b) H' := fun b e H' s' => by have h0 : Q (.bl (isTg z)) H' := hq H' s'; rw [e] at h0; exact h0
    show if isPt z = true then _ else _
    cases hb : isPt z with
    | false => exact iteF (hfin false (by unfold isTg; rw [hb]; rfl) H1 s1)
    | true =>
      refine iteT ⟨_, rfl, z, rfl, hz, fun H2 p s2 np hp => ?_⟩
      refine ⟨p, _, rfl, Or.inl (SqL.of hp), _, _, rfl, rfl, ?_⟩
      rw [List.length_map]
      refine hfin _ ?_ H2 (s1.trans s2)
      unfold isTg
      rw [hb, Bool.true_and]
      by_cases h8 : (parts z).length ≤ 8
      · rw [decide_eq_true h8]; exact (decide_eq_true (by omega)).symm
      · rw [decide_eq_false h8]; exact (decide_eq_false (by omega)).symm
theorem ok_is_place {f f1 f2 : Addr} {fd fd1 fd2 : FuncData} (F : Fun K "is_place" "is_place" s_is_place f fd) (T : Txt K mg tk1 tk2) (N : Nums K mg) (d_is_path : DefAt P w K mg base "is_path" 2 f1 fd1 ["thing"] (spPath K)) (d_split : DefAt P w K mg base "split_path" 1 f2 fd2 ["path"] spSplit) :
    FnOk P w K mg base CX0 3 f fd ["thing"] (spS isPl) := by
  obtain ⟨tg, hg⟩ := N.names
  refine F.ok sc_is_place (fun vs H Q E h => ?_) (fun cdv A outer s H vs Q E hr h => ?_)
  · obtain ⟨z, rfl, _⟩ := h
    rfl
  refine ⟨_, (pss_one (ps_ret (pe_and (pe_callD d_is_path (hr.mono (by decide)) (pa_cons (pv 0) pa_nil)) (pe_one (pe_chain op_le op_le pe_int (pe_callB call_len_seq (by rfl) T.n_len (by decide +kernel) (pa_cons (pe_callD d_split (hr.mono (by decide)) (pa_cons (pv 0) pa_nil)) pa_nil)) (pe_glob (v := .int 10) rfl hg ⟨_, rfl⟩)))))), ?_⟩
  obtain ⟨z, rfl, hz, hq⟩ := h
  refine ⟨_, rfl, .str z, _, rfl, Or.inl ⟨z, rfl, hz, rfl⟩, fun H1 s1 => ⟨_, rfl, ?_⟩⟩
  have hfin : ∀ b : Bool, isPl z = b → ∀ H', Same H H' → Q (.bl b) H' := fun b e H' s' => by have := hq H' s'; rw [e] at this; exact this
  cases hb : isPt z with
  | false => exact iteF (hfin false (by unfold isPl; rw [hb]; rfl) H1 s1)
  | true =>
    refine iteT ⟨_, rfl, z, rfl, hz, fun H2 p s2 np hp => ?_⟩
    refine ⟨p, _, rfl, Or.inl (SqL.of hp), _, _, rfl, rfl, _, rfl, ?_⟩
    rw [List.length_map]
    have e : isPl z = decide (1 ≤ (parts z).length ∧ (parts z).length ≤ 10) := by unfold isPl; rw [hb, Bool.true_and]
    refine ifD (fun h1 => ?_) (fun h1 => ?_)
    · refine ⟨_, _, rfl, rfl, ?_⟩
      refine hfin _ ?_ H2 (s1.trans s2)
      rw [e]
      by_cases h2 : (parts z).length ≤ 10
      · rw [decide_eq_true (show 1 ≤ (parts z).length ∧ (parts z).length ≤ 10 from ⟨by omega, h2⟩)]; exact (decide_eq_true (by omega)).symm
      · rw [decide_eq_false (fun q => h2 q.2)]; exact (decide_eq_false (by omega)).symm
    · exact hfin false (by rw [e]; exact decide_eq_false (fun q => h1 (by omega))) H2 (s1.trans s2)
theorem ok_is_item {f f1 f2 : Addr} {fd fd1 fd2 : FuncData} (F : Fun K "is_item" "is_item" s_is_item f fd) (d_c : DefAt P w K mg base "is_content" 2 f1 fd1 ["thing"] (spV contentV)) (d_t : DefAt P w K mg base "is_target" 3 f2 fd2 ["thing"] (spV targetV)) :
    FnOk P w K mg base CX0 4 f fd ["thing"] (spV itemV) := by
  refine F.ok sc_is_item (fun vs H Q E h => ?_) (fun cdv A outer s H vs Q E hr h => ?_)
  · obtain ⟨x, rfl, _⟩ := h
    rfl
  refine ⟨_, (pss_one (ps_ret (pe_or (pe_cmpR op_isN (pv 0) pe_non (nomark _)) (pe_or (pe_callD d_c (hr.mono (by decide)) (pa_cons (pv 0) pa_nil)) (pe_one (pe_callD d_t (hr.mono (by decide)) (pa_cons (pv 0) pa_nil))))))), ?_⟩
  obtain ⟨x, rfl, hx, hq⟩ := h
  refine ⟨_, rfl, rfl, _, rfl, ?_⟩
  refine ifD (fun h1 => ?_) (fun h1 => ?_)
  · subst h1; exact hq H (Same.refl H)
  · have e : itemV x = (contentV x || targetV x) := by
      rcases hx with rfl | ⟨i, rfl⟩ | ⟨z, rfl, hz⟩
      · exact absurd rfl h1
      · rfl
      · rfl
    rw [e] at hq
    refine ⟨_, rfl, x, rfl, hx, fun H1 s1 => ⟨_, rfl, ?_⟩⟩
    cases hc : contentV x with
    | true => rw [hc] at hq; exact iteT (hq H1 s1)
    | false =>
      rw [hc] at hq
      exact iteF ⟨_, rfl, x, rfl, hx, fun H2 s2 => hq H2 (s1.trans s2)⟩
end
end KF

set_option Elab.async false
set_option linter.all false
set_option maxRecDepth 100000
set_option maxHeartbeats 4000000
namespace LF
open PySem PySem.Spec PyProof.Rows L2 TL KF
def low (z : Str) : Prop := ∀ c ∈ z.cps.toList, c ∈ letters.cps.toList
theorem isNm_iff {z : Str} : isNm z = true ↔ (1 ≤ z.length ∧ z.length ≤ 8) ∧ low z := by
  unfold isNm low
  rw [Bool.and_eq_true, decide_eq_true_eq, List.all_eq_true]
  simp only [decide_eq_true_eq]
theorem sl_not_low : (47 : Nat) ∉ letters.cps.toList := by decide +kernel
theorem isNm_sl {z : Str} (h : isNm z = true) : 47 ∉ tl z := fun hm => sl_not_low ((isNm_iff.mp h).2 _ hm)
theorem tl_sl : tl c_sl = [47] := by decide +kernel
theorem kind_sl : c_sl.cps.all (· < 256) = true := by decide +kernel
theorem len_app (x y : Str) : (x ++ y).length = x.length + y.length := by
  rw [len_tl, len_tl, len_tl, tl_append, List.length_append]
theorem low_app {x y : Str} (hx : low x) (hy : low y) : low (x ++ y) := fun c hc => by
  have e := tl_append x y
  have hc' : c ∈ tl (x ++ y) := hc
  rw [e] at hc'
  exact (List.mem_append.mp hc').elim (hx c) (hy c)
theorem low_sub {x y : Str} (hx : low x) (h : ∀ c ∈ y.cps.toList, c ∈ x.cps.toList) : low y := fun c hc => hx c (h c hc)
theorem cut_mem (z : Str) (lo hi : Option Int) : ∀ c ∈ (cutS z lo hi).cps.toList, c ∈ z.cps.toList := fun c hc => by
  unfold cutS at hc
  exact List.mem_of_mem_drop (List.mem_of_mem_take (by simpa using hc))
theorem cut_to (z : Str) (i : Nat) (h : i ≤ z.length) : (cutS z none (some (i : Int))).length = i := by
  have e : z.cps.toList.length = z.length := by simp [Str.length]
  unfold cutS
  rw [HT.sIx_none, HT.sIx_nat]
  show (((z.cps.toList.drop 0).take (min i z.length - 0)).toArray).size = i
  rw [List.size_toArray, List.length_take, List.length_drop]
  omega
theorem cut_from (z : Str) (i : Nat) (h : i ≤ z.length) : (cutS z (some (i : Int)) none).length = z.length - i := by
  have e : z.cps.toList.length = z.length := by simp [Str.length]
  unfold cutS
  rw [HT.sIx_none, HT.sIx_nat]
  show (((z.cps.toList.drop (min i z.length)).take (z.length - min i z.length)).toArray).size = _
  rw [List.size_toArray, List.length_take, List.length_drop]
  omega
theorem join_nil_tl (ss : List Str) : tl (PySem.Txt.join "" ss) = (ss.map tl).flatten := by
  rw [join_eq, tl_join]
  have e : tl ("" : Str) = [] := by decide +kernel
  rw [e]
  generalize ss.map tl = l
  induction l with
  | nil => rfl
  | cons a l ih =>
    cases l with
    | nil => simp [joinL]
    | cons b l =>
      show a ++ ([] ++ joinL [] (b :: l)) = _
      rw [ih]; simp
/-- what a word is: a stem with one more letter -/
theorem stem_of {ss : List Str} (h : ∀ s ∈ ss, ∃ c, s = ⟨#[c]⟩ ∧ c ∈ letters.cps.toList) : (PySem.Txt.join "" ss).length = ss.length ∧ low (PySem.Txt.join "" ss) := by
  have e := join_nil_tl ss
  constructor
  · rw [len_tl, e]
    clear e
    induction ss with
    | nil => rfl
    | cons a l ih =>
      obtain ⟨c, rfl, _⟩ := h a List.mem_cons_self
      have := ih fun s hs => h s (List.mem_cons_of_mem _ hs)
      have e1 : (tl (⟨#[c]⟩ : Str)).length = 1 := rfl
      simp only [List.map_cons, List.flatten_cons, List.length_append, List.length_cons, e1, this]
      omega
  · intro c hc
    have hc' : c ∈ tl (PySem.Txt.join "" ss) := hc
    rw [e, List.mem_flatten] at hc'
    obtain ⟨l, hl, hcl⟩ := hc'
    obtain ⟨s, hs, rfl⟩ := List.mem_map.mp hl
    obtain ⟨d, rfl, hd⟩ := h s hs
    have : c ∈ [d] := hcl
    rw [List.mem_singleton.mp this]
    exact hd
theorem split_names {ns : List Str} (hne : ns ≠ []) (h : ∀ n ∈ ns, isNm n = true) : PySem.Txt.split (PySem.Txt.join c_sl ns) c_sl = ns :=
  split_join tl_sl kind_sl hne fun p hp => isNm_sl (h p hp)
theorem join_nil0 : PySem.Txt.join c_sl [] = "" := by decide +kernel
theorem join_ne {ns : List Str} (hne : ns ≠ []) (h : ∀ n ∈ ns, isNm n = true) : PySem.Txt.join c_sl ns ≠ "" := fun e => by
  have h1 := split_names hne h
  rw [e] at h1
  have h2 : PySem.Txt.split "" c_sl = [("" : Str)] := by decide +kernel
  rw [h2] at h1
  have h3 := h "" (by rw [← h1]; exact List.mem_singleton_self _)
  exact absurd h3 (by decide +kernel)
theorem parts_join {ns : List Str} (h : ∀ n ∈ ns, isNm n = true) : parts (PySem.Txt.join c_sl ns) = ns := by
  unfold parts
  by_cases hne : ns = []
  · subst hne
    rw [join_nil0, if_pos rfl]
  · rw [if_neg (join_ne hne h), split_names hne h]
theorem isPt_join {ns : List Str} (h : ∀ n ∈ ns, isNm n = true) : isPt (PySem.Txt.join c_sl ns) = true := by
  unfold isPt
  by_cases hne : ns = []
  · subst hne
    rw [join_nil0]; rfl
  · rw [split_names hne h, List.all_eq_true.mpr h, Bool.or_true]
theorem join_len_le {ns : List Str} (h : ∀ n ∈ ns, isNm n = true) : (PySem.Txt.join c_sl ns).length ≤ 9 * ns.length := by
  rw [len_tl, join_eq, tl_join, tl_sl]
  induction ns with
  | nil => exact Nat.zero_le _
  | cons a l ih =>
    have ha := (isNm_len (h a List.mem_cons_self)).2
    have e : (tl a).length = a.length := (len_tl a).symm
    have il := ih fun n hn => h n (List.mem_cons_of_mem _ hn)
    cases l with
    | nil =>
      show (tl a).length ≤ _
      rw [List.length_singleton]; omega
    | cons b l =>
      show (tl a ++ ([47] ++ joinL [47] ((b :: l).map tl))).length ≤ _
      have e1 : ([47] : List Nat).length = 1 := rfl
      simp only [List.length_append, List.length_cons, e1] at il ⊢
      try simp only [List.length_nil] at il ⊢
      omega
end LF

set_option Elab.async false
set_option linter.all false
set_option maxRecDepth 100000
set_option maxHeartbeats 4000000
namespace KF
open PySem PySem.Spec PyProof.Rows L2 LF
example : PySem.W.dataLe false keyD "a" "b" = true := by decide +kernel
theorem isPl_pt {p : Str} (h : isPl p = true) : isPt p = true ∧ ¬ p = "" := by
  unfold isPl at h
  rw [Bool.and_eq_true, decide_eq_true_eq] at h
  refine ⟨h.1, fun e => ?_⟩
  rw [e] at h
  exact absurd h.2.1 (by decide +kernel)
/-- the paths above a path, the root left out -/
def begs (p : Str) : List Str := (List.range ((parts p).length - 1)).map fun i => PySem.Txt.join c_sl ((parts p).take (i + 1))
def spBeg : Sp := fun vs H Q _ => ∃ z : Str, vs = [.str z] ∧ z.length ≤ 1000000 ∧ isPl z = true ∧ ∀ H' p, Same H H' → H p = none → H' p = some (.lst ((begs z).map V.str)) → Q (.ref p) H'
abbrev s_beginnings : Stmt := topS 18
abbrev N_beginnings : List Str := ["path", "parts", "many"]
theorem sc_beginnings : FnScope ["path", "parts", "many"] ["path"] (defScope s_beginnings) := ⟨rfl, rfl, rfl, by decide +kernel, rfl, by decide +kernel, by decide +kernel⟩
theorem cut_head (l : List Str) (k : Nat) : cutV (l.map V.str) none (some (k : Int)) = (l.take k).map V.str := by
  unfold cutV
  rw [HT.sIx_none, HT.sIx_nat, List.drop_zero, Nat.sub_zero, ← List.map_take]
  congr 1
  by_cases h : k ≤ (l.map V.str).length
  · rw [Nat.min_eq_left h]
  · rw [List.length_map] at h
    rw [Nat.min_eq_right (by rw [List.length_map]; omega), List.length_map, List.take_of_length_le (Nat.le_refl _), List.take_of_length_le (by omega)]
theorem isPl_parts {z : Str} (h : isPl z = true) : (∀ s ∈ parts z, isNm s = true) ∧ 1 ≤ (parts z).length ∧ (parts z).length ≤ 10 := by
  have hp := isPl_pt h
  unfold isPl at h
  rw [Bool.and_eq_true, decide_eq_true_eq] at h
  refine ⟨?_, h.2.1, h.2.2⟩
  have h1 := h.1
  unfold isPt at h1
  rw [decide_eq_false hp.2, Bool.false_or, List.all_eq_true] at h1
  unfold parts
  rw [if_neg hp.2]
  exact h1
def rJoin (K : PySem.W.Frag) : V → List V → Hp → VK → Prop := fun x xs H Q => ∃ a p, ∃ ys : List Str, x = .str a ∧ xs = [.ref p] ∧ (SqL K H p (ys.map V.str) ∨ SqT K H p (ys.map V.str)) ∧
  (ys.map (·.length)).sum + ys.length * a.length ≤ 16777216 ∧ Q (.str (PySem.Txt.join a ys)) H
section
variable {P : Program} {w : World} {K : PySem.W.Frag} {mg : Str → Option Value} {base : Heap} {tk1 tk2 : Tok}
theorem ok_beginnings {f f1 : Addr} {fd fd1 : FuncData} (F : Fun K "beginnings" "beginnings" s_beginnings f fd) (T : Txt K mg tk1 tk2) (d_split : DefAt P w K mg base "split_path" 1 f1 fd1 ["path"] spSplit) : FnOk P w K mg base CX0 2 f fd ["path"] spBeg := by
  refine F.ok sc_beginnings (fun vs H Q E h => ?_) (fun cdv A outer s H vs Q E hr h => ?_)
  · obtain ⟨z, rfl, _⟩ := h
    rfl
  refine ⟨_, (pss_cons (ps_set (i := 1) sc_beginnings.nd rfl (Or.inr rfl) (pe_callD d_split (hr.mono (by decide)) (pa_cons (pv 0) pa_nil)))
    (pss_one (ps_ret (pe_lc (own := [("many", 2)]) rfl sc_beginnings.nd (pi_range2 (by rfl) T.n_range (pa_cons pe_int (pa_cons (pe_callB call_len_seq (by rfl) T.n_len (by decide +kernel) (pa_cons (pv 1) pa_nil)) pa_nil))) (blkOk_by (N := N_beginnings) (sc := defScope s_beginnings) (by decide +kernel)) (fun _ _ _ _ _ => pg_name (i := 2) sc_beginnings.nd rfl (Or.inl rfl)) (fun _ _ _ _ _ => pts_nil) (fun _ _ _ _ _ => (pe_m1 PySem.F.slot_str_join PySem.F.type_str_join (show MtR _ "str.join" (rJoin K) from mt_join) pe_str (pe_slice (show SlR _ (rSlL K) from sl_list) (pv 1) po_none (po_some (pv 2))) rfl rfl rfl)))))), ?_⟩
  obtain ⟨z, rfl, hz, hpl, hq⟩ := h
  obtain ⟨hn, hp1, hp2⟩ := isPl_parts hpl
  refine ⟨_, rfl, z, rfl, hz, fun H1 pp s1 np hpp => ?_⟩
  refine ⟨_, rfl, pp, _, rfl, Or.inl (SqL.of hpp), ?_⟩
  rw [List.length_map]
  refine ⟨1, (parts z).length, rfl, ⟨by decide, by decide, by omega, by omega⟩, fun D hD => ?_⟩
  have hn1 : (((parts z).length : Int) - 1).toNat = (parts z).length - 1 := by omega
  rw [hn1]
  refine lc_it walk_range (fun i H' => Same H1 H' ∧ H' D = some (.lst (((begs z).take i).map V.str))) ⟨same_new hD, by rw [upd_same]; rfl⟩ (fun _ _ _ _ => trivial) ?_ ?_
  · rintro i x H2 H3 hi ⟨sm, hd⟩ ⟨rfl, rfl⟩
    refine ⟨rfl, ?_⟩
    have hb : (begs z)[i]? = some (PySem.Txt.join c_sl ((parts z).take (i + 1))) := by
      unfold begs
      rw [List.getElem?_map, List.getElem?_range hi]; rfl
    refine ⟨⟨_, rfl⟩, _, rfl, _, rfl, _, rfl, pp, _, rfl, SqL.of (sm _ _ hpp), fun ps hps => ?_⟩
    have ei : (1 : Int) + (i : Int) = ((i + 1 : Nat) : Int) := by omega
    rw [ei, cut_head]
    have hsum := sum_le (ss := (parts z).take (i + 1)) (n := 8) fun s hs => (isNm_len (hn s (List.mem_of_mem_take hs))).2
    have hlt : ((parts z).take (i + 1)).length ≤ 10 := by rw [List.length_take]; omega
    have c1 : c_sl.length = 1 := by decide +kernel
    refine ⟨_, ps, (parts z).take (i + 1), rfl, rfl, Or.inl (SqL.of upd_same), ?_, ?_⟩
    · show (((parts z).take (i + 1)).map (·.length)).sum + ((parts z).take (i + 1)).length * c_sl.length ≤ 16777216
      rw [c1]; omega
    have hnD : ps ≠ D := Ne.symm (ne_of_none hd hps)
    refine ⟨_, same_new hps _ _ hd, ?_, ?_, ?_⟩
    · rw [List.length_map, List.length_take]
      have : (begs z).length ≤ 10 := by unfold begs; rw [List.length_map, List.length_range]; omega
      exact Nat.lt_of_le_of_lt (show _ ≤ 10 by omega) (by decide)
    · intro b o e
      rw [upd_ne (ne_of_none e (s1.free hD |> fun _ => hD))]
      exact same_new hps _ _ (sm _ _ e)
    · have et : (begs z).take (i + 1) = (begs z).take i ++ [PySem.Txt.join c_sl ((parts z).take (i + 1))] := by rw [List.take_add_one, hb]; rfl
      rw [upd_same, et, List.map_append]; rfl
  · rintro H2 ⟨sm, hd⟩
    have hl : (begs z).length = (parts z).length - 1 := by unfold begs; rw [List.length_map, List.length_range]
    rw [List.take_of_length_le (by omega)] at hd
    exact hq H2 D (s1.trans sm) (s1.free hD) hd
end
end KF

set_option Elab.async false
set_option linter.all false
set_option maxRecDepth 100000
set_option maxHeartbeats 4000000
namespace KF
open PySem PySem.Spec PyProof.Rows L2 LF
def kv (es : List (Str × V)) : List (Key × V) := es.map fun e => (.inr e.1, e.2)
/-- entries that a package may have: every parent is there, a folder; in order -/
structure OkE (es : List (Str × V)) : Prop where
  pl : ∀ e ∈ es, isPl e.1 = true ∧ e.1.length ≤ 1000000
  it : ∀ e ∈ es, Plain e.2 ∧ itemV e.2 = true
  up : ∀ e ∈ es, ∀ s ∈ begs e.1, valV (kv es) (.inr s) = some .non
  le : (es.map (·.1)).Pairwise fun a b => PySem.W.dataLe false keyD a b = true
  nd : (es.map (·.1)).Nodup
  len : es.length ≤ 1000000
theorem same_unlock {H H' : Hp} {d : Addr} {u : HO} {o : Obj} (h : H d = some u) (s : Same (upd H d (.frz o u)) H') : Same H (upd H' d u) := fun b x e => by
  by_cases hb : b = d
  · subst hb
    rw [upd_same, ← e, h]
  · rw [upd_ne hb]
    exact s b x (by rw [upd_ne hb]; exact e)
theorem kv_get {es : List (Str × V)} {i : Nat} {k : Key} {v : V} (h : (kv es)[i]? = some (k, v)) : ∃ p, k = .inr p ∧ es[i]? = some (p, v) ∧ (p, v) ∈ es := by
  unfold kv at h
  rw [List.getElem?_map] at h
  cases e : es[i]? with
  | none => rw [e] at h; cases h
  | some q =>
    rw [e] at h
    obtain ⟨p, u⟩ := q
    have h2 := Option.some.inj h
    cases h2
    exact ⟨p, rfl, rfl, List.mem_of_getElem? e⟩
theorem val_mem {es : List (Str × V)} {p : Str} {v : V} (nd : (es.map (·.1)).Nodup) (h : (p, v) ∈ es) : valV (kv es) (.inr p) = some v := by
  unfold valV kv
  induction es with
  | nil => cases h
  | cons e l ih =>
    rw [List.map_cons, List.nodup_cons] at nd
    rw [List.map_cons, List.find?_cons]
    by_cases he : e.1 = p
    · have : decide (((.inr e.1 : Key), e.2).1 = (.inr p : Key)) = true := decide_eq_true (by show (.inr e.1 : Key) = .inr p; rw [he])
      rw [this]
      rcases List.mem_cons.mp h with q | q
      · rw [← q]; rfl
      · exact absurd (by rw [he]; exact List.mem_map.mpr ⟨_, q, rfl⟩) nd.1
    · have : decide (((.inr e.1 : Key), e.2).1 = (.inr p : Key)) = false := decide_eq_false (fun q => he (Sum.inr.inj q))
      rw [this]
      rcases List.mem_cons.mp h with q | q
      · exact absurd (by rw [← q]) he
      · exact ih nd.2 q
theorem begs_facts {p : Str} (h : isPl p = true) (hl : p.length ≤ 1000000) : ∀ s ∈ begs p, isPl s = true ∧ s.length ≤ 1000000 ∧ ∀ t ∈ begs s, t ∈ begs p := by
  obtain ⟨h1, h2, h3⟩ := isPl_parts h
  intro s hs
  have hs' := hs
  unfold begs at hs'
  obtain ⟨i, hi, rfl⟩ := List.mem_map.mp hs'
  have hi2 := List.mem_range.mp hi
  have hn : ∀ t ∈ (parts p).take (i + 1), isNm t = true := fun t ht => h1 t (List.mem_of_mem_take ht)
  have hpj := parts_join hn
  have hlen : ((parts p).take (i + 1)).length = i + 1 := by rw [List.length_take]; omega
  refine ⟨?_, ?_, ?_⟩
  · unfold isPl
    rw [isPt_join hn, hpj, hlen, Bool.true_and]
    exact decide_eq_true ⟨by omega, by omega⟩
  · have := join_len_le hn
    rw [hlen] at this
    omega
  · intro t ht
    unfold begs at ht
    rw [hpj, hlen] at ht
    obtain ⟨j, hj, rfl⟩ := List.mem_map.mp ht
    have hj2 := List.mem_range.mp hj
    unfold begs
    refine List.mem_map.mpr ⟨j, List.mem_range.mpr (by omega), ?_⟩
    rw [List.take_take]
    congr 2
    omega
/-- entries that a package may be made of: no file or reference lies ahead of another one; in any order, with or without the folders ahead -/
structure OkU (es : List (Str × V)) : Prop where
  pl : ∀ e ∈ es, isPl e.1 = true ∧ e.1.length ≤ 1000000
  it : ∀ e ∈ es, Plain e.2 ∧ itemV e.2 = true
  up : ∀ e ∈ es, ∀ s ∈ begs e.1, valV (kv es) (.inr s) = none ∨ valV (kv es) (.inr s) = some .non
  nd : (es.map (·.1)).Nodup
/-- folders put in where nothing is -/
def addB (a : List (Str × V)) (bs : List Str) : List (Str × V) := bs.foldl (fun a s => if s ∈ a.map (·.1) then a else a ++ [(s, .non)]) a
def fullN (es ps : List (Str × V)) : List (Str × V) := ps.foldl (fun a e => addB a (begs e.1)) es
def fullU (es : List (Str × V)) : List (Str × V) := fullN es es
def pkE (es : List (Str × V)) : List (Str × V) := (((fullU es).map (·.1)).mergeSort (PySem.W.dataLe false keyD)).map fun p => (p, (valV (kv (fullU es)) (.inr p)).getD .non)
theorem val_no {es : List (Str × V)} {p : Str} (h : p ∉ es.map (·.1)) : valV (kv es) (.inr p) = none := by
  unfold valV kv
  rw [Option.map_eq_none_iff, List.find?_eq_none]
  intro q hq
  obtain ⟨e, he, rfl⟩ := List.mem_map.mp hq
  rw [decide_eq_true_eq]
  intro z
  exact h (List.mem_map.mpr ⟨e, he, Sum.inr.inj z⟩)
/-- what is true of entries with more and more folders -/
structure Grown (es a : List (Str × V)) : Prop where
  sub : ∀ e ∈ es, e ∈ a
  new : ∀ e ∈ a, e ∈ es ∨ (e.2 = .non ∧ e.1 ∉ es.map (·.1) ∧ ∃ q ∈ es, e.1 ∈ begs q.1)
  nd : (a.map (·.1)).Nodup
theorem Grown.refl {es : List (Str × V)} (nd : (es.map (·.1)).Nodup) : Grown es es := ⟨fun _ h => h, fun _ h => Or.inl h, nd⟩
theorem Grown.add {es : List (Str × V)} {q : Str × V} (hq : q ∈ es) : ∀ (bs : List Str) (a : List (Str × V)), (∀ s ∈ bs, s ∈ begs q.1) → Grown es a → Grown es (addB a bs) ∧ (∀ e ∈ a, e ∈ addB a bs) ∧ ∀ s ∈ bs, s ∈ (addB a bs).map (·.1)
  | [], a, _, g => ⟨g, fun _ h => h, fun _ h => nomatch h⟩
  | s :: bs, a, hb, g => by
    have g1 : Grown es (if s ∈ a.map (·.1) then a else a ++ [(s, .non)]) := by
      split
      · exact g
      · rename_i hs
        refine ⟨fun e he => List.mem_append_left _ (g.sub e he), fun e he => ?_, ?_⟩
        · rcases List.mem_append.mp he with he | he
          · exact g.new e he
          · obtain rfl := List.mem_singleton.mp he
            refine Or.inr ⟨rfl, fun h => ?_, q, hq, hb s List.mem_cons_self⟩
            obtain ⟨e2, he2, e3⟩ := List.mem_map.mp h
            exact hs (List.mem_map.mpr ⟨e2, g.sub e2 he2, e3⟩)
        · rw [List.map_append, List.map_cons, List.map_nil, List.nodup_append]
          refine ⟨g.nd, by simp, fun x hx y hy e => ?_⟩
          rw [List.mem_singleton.mp hy] at e
          have e' : x = s := e
          rw [e'] at hx
          exact hs hx
    obtain ⟨i1, i2, i3⟩ := Grown.add hq bs _ (fun t ht => hb t (List.mem_cons_of_mem _ ht)) g1
    refine ⟨i1, fun e he => i2 e ?_, fun t ht => ?_⟩
    · split
      · exact he
      · exact List.mem_append_left _ he
    · rcases List.mem_cons.mp ht with rfl | ht
      · have : t ∈ (if t ∈ a.map (·.1) then a else a ++ [(t, .non)]).map (·.1) := by
          split
          · assumption
          · rw [List.map_append]; exact List.mem_append_right _ List.mem_cons_self
        obtain ⟨e, he, e3⟩ := List.mem_map.mp this
        exact List.mem_map.mpr ⟨e, i2 e he, e3⟩
      · exact i3 t ht
theorem Grown.full {es : List (Str × V)} : ∀ (ps a : List (Str × V)), (∀ q ∈ ps, q ∈ es) → Grown es a → Grown es (fullN a ps) ∧ (∀ e ∈ a, e ∈ fullN a ps) ∧ ∀ q ∈ ps, ∀ s ∈ begs q.1, s ∈ (fullN a ps).map (·.1)
  | [], a, _, g => ⟨g, fun _ h => h, fun _ h => nomatch h⟩
  | q :: ps, a, hp, g => by
    obtain ⟨g1, m1, b1⟩ := Grown.add (hp q List.mem_cons_self) (begs q.1) a (fun _ h => h) g
    obtain ⟨g2, m2, b2⟩ := Grown.full ps (addB a (begs q.1)) (fun r hr => hp r (List.mem_cons_of_mem _ hr)) g1
    refine ⟨g2, fun e he => m2 e (m1 e he), fun r hr s hs => ?_⟩
    rcases List.mem_cons.mp hr with rfl | hr
    · obtain ⟨e, he, e3⟩ := List.mem_map.mp (b1 s hs)
      exact List.mem_map.mpr ⟨e, m2 e he, e3⟩
    · exact b2 r hr s hs
end KF

set_option Elab.async false
set_option linter.all false
set_option maxRecDepth 100000
set_option maxHeartbeats 4000000
namespace KF
open PySem PySem.Spec PyProof.Rows L2 LF
abbrev pLt (a b : Str) : Bool := PySem.W.dataLt (keyD a) (keyD b)
abbrev pLe (a b : Str) : Bool := PySem.W.dataLe false keyD a b
theorem pLe_eq (a b : Str) : pLe a b = !pLt b a := by
  show PySem.W.dataLe false keyD a b = _
  rw [PySem.W.dataLe_eq]; rfl
theorem pLt_trans {a b c : Str} (h1 : pLt a b = true) (h2 : pLt b c = true) : pLt a c = true := PyProof.Rows.lex_trans _ _ _ h1 h2
theorem pLt_irrefl (a : Str) : pLt a a = false := PyProof.Rows.lex_irrefl _
theorem pLe_trans (a b c : Str) (h1 : pLe a b = true) (h2 : pLe b c = true) : pLe a c = true := by
  rw [pLe_eq] at *
  cases h : pLt c a with
  | false => rfl
  | true =>
    rcases PyProof.Rows.lex_negTrans _ (PySem.W.keyToks (keyD b)) _ h with h3 | h3
    · rw [show pLt c b = true from h3] at h2; cases h2
    · rw [show pLt b a = true from h3] at h1; cases h1
theorem pLe_total (a b : Str) : (pLe a b || pLe b a) = true := by
  rw [pLe_eq, pLe_eq]
  cases h1 : pLt b a with
  | false => rfl
  | true =>
    cases h2 : pLt a b with
    | false => rfl
    | true => exact absurd (pLt_trans h1 h2) (by rw [pLt_irrefl]; exact Bool.false_ne_true)
theorem sort_mem {l : List Str} {p : Str} : p ∈ l.mergeSort pLe ↔ p ∈ l := (List.mergeSort_perm l pLe).mem_iff
theorem full_grown {es : List (Str × V)} (h : OkU es) : Grown es (fullU es) ∧ ∀ q ∈ es, ∀ s ∈ begs q.1, s ∈ (fullU es).map (·.1) := by
  obtain ⟨a, _, b⟩ := Grown.full es es (fun _ h => h) (Grown.refl h.nd)
  exact ⟨a, b⟩
theorem pkE_keys (es : List (Str × V)) : (pkE es).map (·.1) = ((fullU es).map (·.1)).mergeSort pLe := by
  unfold pkE
  rw [List.map_map]
  exact List.map_id _
theorem mem_pkE {es : List (Str × V)} (h : OkU es) {e : Str × V} : e ∈ pkE es ↔ e ∈ fullU es := by
  have nd := (full_grown h).1.nd
  unfold pkE
  rw [List.mem_map]
  constructor
  · rintro ⟨p, hp, rfl⟩
    obtain ⟨e2, he2, rfl⟩ := List.mem_map.mp (sort_mem.mp hp)
    rw [val_mem nd (p := e2.1) (v := e2.2) he2]
    exact he2
  · intro he
    refine ⟨e.1, sort_mem.mpr (List.mem_map.mpr ⟨e, he, rfl⟩), ?_⟩
    rw [val_mem nd (p := e.1) (v := e.2) he]; rfl
theorem pkE_nd {es : List (Str × V)} (h : OkU es) : ((pkE es).map (·.1)).Nodup := by
  rw [pkE_keys]
  exact ((List.mergeSort_perm _ pLe).nodup_iff).mpr (full_grown h).1.nd
theorem full_pl {es : List (Str × V)} (h : OkU es) : ∀ e ∈ fullU es, (isPl e.1 = true ∧ e.1.length ≤ 1000000) ∧ (Plain e.2 ∧ itemV e.2 = true) ∧ ∀ s ∈ begs e.1, (s, V.non) ∈ fullU es := by
  obtain ⟨g, gb⟩ := full_grown h
  have non : ∀ q ∈ es, ∀ s ∈ begs q.1, (s, V.non) ∈ fullU es := fun q hq s hs => by
    obtain ⟨e2, he2, rfl⟩ := List.mem_map.mp (gb q hq s hs)
    have e3 : e2.2 = .non := by
      rcases g.new e2 he2 with h2 | ⟨h2, _⟩
      · have hv := val_mem h.nd (p := e2.1) (v := e2.2) h2
        rcases h.up q hq e2.1 hs with h3 | h3
        · rw [hv] at h3; cases h3
        · rw [hv] at h3; exact Option.some.inj h3
      · exact h2
    rw [← e3]; exact he2
  intro e he
  rcases g.new e he with h1 | ⟨h1, _, q, hq, hb⟩
  · exact ⟨h.pl e h1, h.it e h1, non e h1⟩
  · obtain ⟨q1, q2⟩ := h.pl q hq
    obtain ⟨b1, b2, b3⟩ := begs_facts q1 q2 e.1 hb
    refine ⟨⟨b1, b2⟩, ?_, fun s hs => non q hq s (b3 s hs)⟩
    rw [h1]
    exact ⟨Or.inl rfl, rfl⟩
theorem pkE_len (es : List (Str × V)) : (pkE es).length = (fullU es).length := by
  unfold pkE
  rw [List.length_map, List.length_mergeSort, List.length_map]
theorem pkE_ok {es : List (Str × V)} (h : OkU es) (hl : (fullU es).length ≤ 1000000) : OkE (pkE es) := by
  refine ⟨fun e he => (full_pl h e ((mem_pkE h).mp he)).1, fun e he => (full_pl h e ((mem_pkE h).mp he)).2.1, fun e he s hs => ?_, ?_, pkE_nd h, by rw [pkE_len]; exact hl⟩
  · exact val_mem (pkE_nd h) ((mem_pkE h).mpr ((full_pl h e ((mem_pkE h).mp he)).2.2 s hs))
  · rw [pkE_keys]
    exact List.pairwise_mergeSort pLe_trans pLe_total _
/-- entries in order, with all folders, are those of the package -/
theorem addB_id {a : List (Str × V)} : ∀ {bs : List Str}, (∀ s ∈ bs, s ∈ a.map (·.1)) → addB a bs = a
  | [], _ => rfl
  | s :: bs, h => by
    show addB (if s ∈ a.map (·.1) then a else a ++ [(s, .non)]) bs = a
    rw [if_pos (h s List.mem_cons_self)]
    exact addB_id fun t ht => h t (List.mem_cons_of_mem _ ht)
theorem fullN_id {es : List (Str × V)} : ∀ {ps : List (Str × V)}, (∀ q ∈ ps, ∀ s ∈ begs q.1, s ∈ es.map (·.1)) → fullN es ps = es
  | [], _ => rfl
  | q :: ps, h => by
    show fullN (addB es (begs q.1)) ps = es
    rw [addB_id (h q List.mem_cons_self)]
    exact fullN_id fun r hr => h r (List.mem_cons_of_mem _ hr)
theorem val_key {es : List (Str × V)} {p : Str} {v : V} (h : valV (kv es) (.inr p) = some v) : p ∈ es.map (·.1) := by
  by_cases hp : p ∈ es.map (·.1)
  · exact hp
  · rw [val_no hp] at h; cases h
theorem OkE.toU {es : List (Str × V)} (h : OkE es) : OkU es := ⟨h.pl, h.it, fun e he s hs => Or.inr (h.up e he s hs), h.nd⟩
theorem full_id {es : List (Str × V)} (h : ∀ e ∈ es, ∀ s ∈ begs e.1, s ∈ es.map (·.1)) : fullU es = es := fullN_id h
theorem map_val {es : List (Str × V)} (nd : (es.map (·.1)).Nodup) : (es.map (·.1)).map (fun p => (p, (valV (kv es) (.inr p)).getD .non)) = es := by
  rw [List.map_map]
  refine (List.map_congr_left fun e he => ?_).trans (List.map_id es)
  show (e.1, (valV (kv es) (.inr e.1)).getD .non) = e
  rw [val_mem nd (p := e.1) (v := e.2) he]; rfl
theorem pkE_id {es : List (Str × V)} (h : OkE es) : pkE es = es := by
  have hf := full_id (es := es) fun e he s hs => val_key (h.up e he s hs)
  unfold pkE
  rw [hf, List.mergeSort_of_pairwise h.le]
  exact map_val h.nd
end KF

set_option Elab.async false
set_option linter.all false
set_option maxRecDepth 100000
set_option maxHeartbeats 4000000
namespace KF
open PySem PySem.Spec PyProof.Rows L2 LF
def spLB : Sp := fun vs H Q _ => ∃ (d : Addr) (kvs : List (Key × V)) (p : Str), vs = [.ref d, .str p] ∧ H d = some (.dK kvs) ∧ p.length ≤ 1000000 ∧ isPl p = true ∧ (∀ s ∈ begs p, valV kvs (.inr s) = none ∨ valV kvs (.inr s) = some .non) ∧ ∀ H', Same H H' → Q (.bl false) H'
abbrev s_lies_below_leaf : Stmt := topS 46
abbrev N_lies_below_leaf : List Str := ["entries", "path", "place"]
theorem sc_lies_below_leaf : FnScope ["entries", "path", "place"] ["entries", "path"] (defScope s_lies_below_leaf) := ⟨rfl, rfl, rfl, by decide +kernel, rfl, by decide +kernel, by decide +kernel⟩
section
variable {P : Program} {w : World} {K : PySem.W.Frag} {mg : Str → Option Value} {base : Heap} {tk1 tk2 : Tok}
theorem ok_lies {f f1 : Addr} {fd fd1 : FuncData} (F : Fun K "lies_below_leaf" "lies_below_leaf" s_lies_below_leaf f fd) (n_any : mg "any" = none) (d_beg : DefAt P w K mg base "beginnings" 2 f1 fd1 ["path"] spBeg) :
    FnOk P w K mg base CX0 3 f fd ["entries", "path"] spLB := by
  refine F.ok sc_lies_below_leaf (fun vs H Q E h => ?_) (fun cdv A outer s H vs Q E hr h => ?_)
  · obtain ⟨d, kvs, p, rfl, _⟩ := h
    rfl
  have hu1 := hu_of hr
  refine ⟨_, (pss_one (ps_ret (pe_callB (cr_any rfl) (by rfl) n_any (by decide +kernel) (pa_cons (pe_lc (own := [("place", 2)]) rfl sc_lies_below_leaf.nd (pi_list (pe_callD d_beg (hr.mono (by decide)) (pa_cons (pv 1) pa_nil))) (blkOk_by (N := N_lies_below_leaf) (sc := defScope s_lies_below_leaf) (by decide +kernel)) (fun _ _ _ _ _ => pg_name (i := 2) sc_lies_below_leaf.nd rfl (Or.inl rfl)) (fun _ _ _ _ _ => pts_nil)
      (fun _ _ _ _ _ => (pe_cmpR op_notN (pe_dget1 hu1 (pv 0) (pv 2) ⟨rfl, rfl, rfl, rfl⟩) pe_non (nomark _)))) pa_nil)))), ?_⟩
  obtain ⟨d, kvs, p, rfl, hd, hp, hpl, hup, hq⟩ := h
  obtain ⟨hn, hp1, hp2⟩ := isPl_parts hpl
  refine ⟨_, rfl, p, rfl, hp, hpl, fun H1 b s1 nb hb => ?_⟩
  refine ⟨b, rfl, ⟨_, SqL.of hb⟩, fun D hD => ?_⟩
  have hbl : (begs p).length ≤ 10 := by unfold begs; rw [List.length_map, List.length_range]; omega
  refine lc_it (walk_list (xs := (begs p).map V.str)) (fun i H' => Same H1 H' ∧ H' D = some (.lst ((List.replicate i false).map V.bl))) ⟨same_new hD, by rw [upd_same]; rfl⟩ (fun i H' _ h => sqL_same h.1 (SqL.of hb)) ?_ ?_
  · rintro i x H2 H3 hi ⟨sm, hd2⟩ ⟨rfl, hx⟩
    rw [List.length_map] at hi
    rw [List.getElem?_map] at hx
    obtain ⟨s0, hs0, rfl⟩ : ∃ s0, (begs p)[i]? = some s0 ∧ x = .str s0 := by
      cases e : (begs p)[i]? with
      | none => rw [e] at hx; cases hx
      | some q => rw [e] at hx; exact ⟨q, rfl, (Option.some.inj hx).symm⟩
    have hv := hup s0 (List.mem_of_getElem? hs0)
    have hd3 := sm _ _ (s1 _ _ hd)
    refine ⟨rfl, _, rfl, d, rfl, Or.inl ⟨_, Or.inl hd3⟩, _, rfl, _, DGet.k (k := Sum.inr s0) hd3, rfl, ?_⟩
    have hv2 : (valV kvs (.inr s0)).getD .non = .non := by rcases hv with hv | hv <;> rw [hv] <;> rfl
    rw [hv2]
    refine ⟨_, hd2, ?_, fun b' o e => ?_, ?_⟩
    · rw [List.length_map, List.length_replicate]; exact Nat.lt_of_lt_of_le (show i < 20 by omega) (by decide)
    · rw [upd_ne (ne_of_none e hD)]; exact sm _ _ e
    · rw [upd_same, List.replicate_succ', List.map_append]; rfl
  · rintro H2 ⟨sm, hd2⟩
    refine ⟨D, _, rfl, SqL.of hd2, ?_⟩
    have e : (List.replicate ((begs p).map V.str).length false).any id = false := by
      rw [List.any_eq_false]
      intro x hx
      rw [(List.mem_replicate.mp hx).2]
      exact Bool.false_ne_true
    rw [e]
    exact hq H2 (s1.trans sm)
end
end KF

set_option Elab.async false
set_option linter.all false
set_option maxRecDepth 100000
set_option maxHeartbeats 4000000
namespace KF
open PySem PySem.Spec PyProof.Rows L2 LF
abbrev s_check_entries : Stmt := topS 45
abbrev N_check_entries : List Str := ["entries", "key", "wrong", "path"]
theorem sc_check_entries : FnScope ["entries", "key", "wrong", "path"] ["entries"] (defScope s_check_entries) := ⟨rfl, rfl, rfl, by decide +kernel, rfl, by decide +kernel, by decide +kernel⟩
def spCE : Sp := fun vs H Q _ => ∃ (d : Addr) (es : List (Str × V)), vs = [.ref d] ∧ H d = some (.dK (kv es)) ∧ OkU es ∧ es.length ≤ 1000000 ∧ ∀ H', Same H H' → Q .non H'
theorem keys_kv (es : List (Str × V)) : (kv es).map (fun q => kV q.1) = (es.map (·.1)).map V.str := by
  unfold kv
  rw [List.map_map, List.map_map]; rfl
section
variable {P : Program} {w : World} {K : PySem.W.Frag} {mg : Str → Option Value} {base : Heap} {tk1 tk2 : Tok}
theorem ok_check_entries {f f1 f2 f3 f4 : Addr} {fd fd1 fd2 fd3 fd4 : FuncData} (F : Fun K "check_entries" "check_entries" s_check_entries f fd) (T : Txt K mg tk1 tk2) (d_in_order : DefAt P w K mg base "in_order" 5 f1 fd1 ["paths"] (spOrder K))
    (d_place : DefAt P w K mg base "is_place" 3 f2 fd2 ["thing"] (spS isPl)) (d_item : DefAt P w K mg base "is_item" 4 f3 fd3 ["thing"] (spV itemV)) (d_lies : DefAt P w K mg base "lies_below_leaf" 3 f4 fd4 ["entries", "path"] spLB) :
    FnOk P w K mg base CX0 6 f fd ["entries"] spCE := by
  refine F.ok sc_check_entries (fun vs H Q E h => ?_) (fun cdv A outer s H vs Q E hr h => ?_)
  · obtain ⟨d, es, rfl, _⟩ := h
    rfl
  have hu1 := hu_of hr
  refine ⟨_, (pss_cons (ps_if (PW.pt (pw_or (pt_not (pt_val (pe_callB call_isi (by rfl) T.n_isinstance (by decide +kernel) (pa_cons (pv 0) (pa_cons (pe_bltn (v := .ty "dict") (by rfl) T.n_dict (by decide +kernel) rfl) pa_nil))))) (pw_or1 (pt_not (pt_val (pe_callB (cr_all rfl) (by rfl) T.n_all (by decide +kernel) (pa_cons (pe_lock (pe_lc (own := [("key", 1)]) rfl sc_check_entries.nd (pi_keys (pv 0)) (blkOk_by (N := N_check_entries) (sc := defScope s_check_entries) (by decide +kernel)) (fun _ _ _ _ _ => pg_name (i := 1) sc_check_entries.nd rfl (Or.inl rfl)) (fun _ _ _ _ _ => pts_nil)
      (fun _ _ _ _ _ => (pe_callB (show CallR _ (.builtin "isinstance") (rIsi K) from call_isi) (by rfl) T.n_isinstance (by decide +kernel) (pa_cons (pv 1) (pa_cons (pe_bltn (v := .ty "str") (by rfl) T.n_str (by decide +kernel) rfl) pa_nil)))))) pa_nil))))))) (pss_one ps_never) pss_nil)
    (pss_cons (ps_lock (ps_setLc (i := 2) (own := [("key", 1)]) rfl sc_check_entries.nd rfl rfl (sw_true rfl rfl rfl (by decide +kernel)) (pi_keys (pv 0)) (blkOk_by (N := N_check_entries) (sc := defScope s_check_entries) (by decide +kernel)) (fun _ _ _ _ _ => pg_name (i := 1) sc_check_entries.nd rfl (Or.inl rfl))
      (fun _ _ _ _ _ => pts_one (pt_not (pt_val (pe_callD d_place (hr.mono (by decide)) (pa_cons (pv 1) pa_nil))))) (fun _ _ _ _ _ => pv 1)))
    (pss_cons (ps_if (pt_cmpR op_gt (pe_callB call_len_seq (by rfl) T.n_len (by decide +kernel) (pa_cons (pv 2) pa_nil)) pe_int (nomark _)) (pss_one ps_never) pss_nil)
    (pss_one (ps_for PassesOwn.never rfl (pi_list (pe_callD d_in_order (hr.mono (by decide)) (pa_cons (pe_callTy (call_listD rfl) (by rfl) T.n_list (by decide +kernel) (pa_cons (pv 0) pa_nil)) pa_nil))) (pg_name (i := 3) sc_check_entries.nd rfl (Or.inl rfl))
      (pss_one (ps_if (PW.pt (pw_or (pt_not (pt_val (pe_callD d_item (hr.mono (by decide)) (pa_cons (pe_dget hu1 (pv 0) (pv 3) (fun _ _ => rfl)) pa_nil)))) (pw_or1 (pt_val (pe_callD d_lies (hr.mono (by decide)) (pa_cons (pv 0) (pa_cons (pv 3) pa_nil))))))) (pss_one ps_never) pss_nil))))))), ?_⟩
  obtain ⟨d, es, rfl, hd, ok, hlen, hq⟩ := h
  have hbig := sizeLine_big
  have hkl : (kv es).length = es.length := by unfold kv; rw [List.length_map]
  refine ⟨_, rfl, _, .ty "dict", _, _, true, rfl, .ty _, .base (.dK hd), kit_ty (by decide +kernel), ?_⟩
  refine ⟨_, rfl, iteF ?_⟩
  -- every key is a text
  refine ⟨d, _, hd, True.intro, fun od => ?_⟩
  refine ⟨_, rfl, d, od, rfl, Or.inl ⟨kv es, upd_same, fun D hD => ?_⟩⟩
  have hl0 : (upd H d (.frz od (.dK (kv es)))) d = some (.frz od (.dK (kv es))) := upd_same
  have hs0 : ∀ H', Same (upd H d (.frz od (.dK (kv es)))) H' → Same H (upd H' d (.dK (kv es))) := fun H' s' => same_unlock hd s'
  generalize (upd H d (.frz od (.dK (kv es)))) = L at hl0 hs0 hD
  refine lc_it walk_keys (fun i H' => Same L H' ∧ H' D = some (.lst ((List.replicate i true).map V.bl))) ⟨same_new hD, by rw [upd_same]; rfl⟩ (fun i H' _ h => h.1 _ _ hl0) ?_ ?_
  · rintro i x H1 H2 hi ⟨sm, hd1⟩ ⟨rfl, k, v, hk, rfl⟩
    obtain ⟨p, rfl, _, hm⟩ := kv_get hk
    refine ⟨rfl, _, rfl, _, .ty "str", _, _, true, rfl, .ty _, .base (.str p), kit_str, _, hd1, ?_, fun b' o e => ?_, ?_⟩
    · rw [List.length_map, List.length_replicate]; omega
    · rw [upd_ne (ne_of_none e hD)]; exact sm _ _ e
    · rw [upd_same, List.replicate_succ', List.map_append]; rfl
  rintro H1 ⟨sm1, hd1⟩
  refine ⟨sm1 _ _ hl0, ?_⟩
  have S1 := hs0 _ sm1
  have nDd : D ≠ d := Ne.symm (ne_of_none hl0 hD)
  have hD1 : (upd H1 d (.dK (kv es))) D = some (.lst ((List.replicate (kv es).length true).map V.bl)) := by rw [upd_ne nDd]; exact hd1
  generalize (upd H1 d (.dK (kv es))) = G1 at S1 hD1
  refine ⟨D, _, rfl, SqL.of hD1, ?_⟩
  have e1 : (List.replicate (kv es).length true).all id = true := by
    rw [List.all_eq_true]
    intro x hx
    rw [(List.mem_replicate.mp hx).2]; rfl
  rw [e1]
  refine ⟨_, rfl, iteF ?_⟩
  -- wrong
  have hdG := S1 _ _ hd
  refine ⟨d, _, hdG, True.intro, fun od2 => ?_⟩
  refine ⟨_, rfl, d, od2, rfl, Or.inl ⟨kv es, upd_same, fun D2 hD2 => ?_⟩⟩
  have hl2 : (upd G1 d (.frz od2 (.dK (kv es)))) d = some (.frz od2 (.dK (kv es))) := upd_same
  have hs2 : ∀ H', Same (upd G1 d (.frz od2 (.dK (kv es)))) H' → Same G1 (upd H' d (.dK (kv es))) := fun H' s' => same_unlock hdG s'
  generalize (upd G1 d (.frz od2 (.dK (kv es)))) = L2' at hl2 hs2 hD2
  refine lc_it walk_keys (fun i H' => Same L2' H' ∧ H' D2 = some (.lst [])) ⟨same_new hD2, upd_same⟩ (fun i H' _ h => h.1 _ _ hl2) ?_ ?_
  · rintro i x H2 H3 hi ⟨sm, hd2⟩ ⟨rfl, k, v, hk, rfl⟩
    obtain ⟨p, rfl, _, hm⟩ := kv_get hk
    obtain ⟨hp1, hp2⟩ := ok.pl _ hm
    refine ⟨rfl, _, rfl, p, rfl, hp2, fun H4 s4 => ⟨_, rfl, ?_⟩⟩
    rw [hp1]
    exact iteF ⟨sm.trans s4, s4 _ _ hd2⟩
  rintro H2 ⟨sm2, hd2⟩
  refine ⟨sm2 _ _ hl2, ?_⟩
  have S2 := hs2 _ sm2
  have nD2 : D2 ≠ d := Ne.symm (ne_of_none hl2 hD2)
  have hD3 : (upd H2 d (.dK (kv es))) D2 = some (.lst []) := by rw [upd_ne nD2]; exact hd2
  generalize (upd H2 d (.dK (kv es))) = G2 at S2 hD3
  refine ⟨_, rfl, D2, [], rfl, Or.inl (SqL.of hD3), _, _, rfl, rfl, _, rfl, ?_⟩
  refine ifD (fun h => absurd h (by decide)) (fun _ => ?_)
  -- the loop
  have hdG2 := S2 _ _ hdG
  refine ⟨_, rfl, d, _, rfl, Or.inl hdG2, fun q hq1 => ?_⟩
  rw [keys_kv]
  refine ⟨q, es.map (·.1), rfl, SqL.of upd_same, fun x hx => ?_, fun H3 p s3 np hp => ?_⟩
  · obtain ⟨e, he, rfl⟩ := List.mem_map.mp hx
    exact (ok.pl e he).2
  have S3 : Same H H3 := ((S1.trans S2).trans (same_new hq1)).trans s3
  generalize hks : (es.map (·.1)).mergeSort (PySem.W.dataLe false keyD) = ks at hp
  have hkm : ∀ p ∈ ks, ∃ v, (p, v) ∈ es := fun p hp => by
    rw [← hks] at hp
    obtain ⟨e, he, rfl⟩ := List.mem_map.mp (sort_mem.mp hp)
    exact ⟨e.2, he⟩
  refine ⟨p, rfl, ⟨_, SqL.of hp⟩, for_list (K := K) (a := p) (xs := ks.map V.str) (fun i σ H' => ∃ v3, σ = [some (.ref d), none, some (.ref D2), v3] ∧ Same H3 H') ⟨_, rfl, Same.refl H3⟩ (fun i σ H' _ ⟨_, _, sm⟩ => sqL_same sm (SqL.of hp)) ?_ ?_⟩
  · rintro i x σ H' hi ⟨v3, rfl, sm⟩
    rw [List.getElem?_map] at hi
    cases e : ks[i]? with
    | none => rw [e] at hi; cases hi
    | some pth =>
      rw [e] at hi
      cases hi
      obtain ⟨v, hm⟩ := hkm pth (List.mem_of_getElem? e)
      obtain ⟨hp1, hp2⟩ := ok.pl _ hm
      obtain ⟨hi1, hi2⟩ := ok.it _ hm
      have hv := val_mem ok.nd hm
      have hd4 := sm _ _ (S3 _ _ hd)
      refine ⟨_, rfl, _, rfl, d, v, rfl, by have := DGet.k (k := Sum.inr pth) hd4; rw [hv] at this; exact this, v, rfl, hi1, fun H4 s4 => ⟨_, rfl, ?_⟩⟩
      rw [hi2]
      refine iteF ?_
      refine ⟨_, rfl, _, rfl, d, _, pth, rfl, s4 _ _ hd4, hp2, hp1, ok.up _ hm, fun H5 s5 => ⟨_, rfl, iteF ?_⟩⟩
      exact ⟨_, rfl, (sm.trans s4).trans s5⟩
  · rintro σ H' ⟨v3, rfl, sm⟩
    exact hq H' (S3.trans sm)
end
end KF

set_option Elab.async false
set_option linter.all false
set_option maxRecDepth 100000
set_option maxHeartbeats 4000000
namespace LF
open PySem PySem.Spec PyProof.Rows L2
open Evl (Ev EvL EvU EvT EvA Ex sq_of st_of)
/-! data over what is tracked -/
mutual
inductive Dq (H : Hp) : V → PyData → Prop
  | non : Dq H .non .none
  | bl (b : Bool) : Dq H (.bl b) (.bool b)
  | int (i : Int) : Dq H (.int i) (.int i)
  | str (x : Str) (hl : x.length ≤ 1000) (ho : PyData.strOk x = true) : Dq H (.str x) (.str x)
  | lst {a : Addr} {xs : List V} {ds : List PyData} : H a = some (.lst xs) → DqAll H xs ds → xs.length ≤ 1000 → Dq H (.ref a) (.list ds)
  | tup {a : Addr} {xs : List V} {ds : List PyData} : H a = some (.tup xs) → DqAll H xs ds → xs.length ≤ 1000 → Dq H (.ref a) (.tuple ds)
inductive DqAll (H : Hp) : List V → List PyData → Prop
  | nil : DqAll H [] []
  | cons {v : V} {vs : List V} {d : PyData} {ds : List PyData} : Dq H v d → DqAll H vs ds → DqAll H (v :: vs) (d :: ds)
end
mutual
theorem Dq.same {H H' : Hp} (s : Ex H H') : ∀ (d : PyData) (v : V), Dq H v d → Dq H' v d
  | .none, _, h => by cases h; exact .non
  | .bool _, _, h => by cases h; exact .bl _
  | .int _, _, h => by cases h; exact .int _
  | .str _, _, h => by cases h with | str _ h1 h2 => exact .str _ h1 h2
  | .list ds, _, h => by cases h with | lst h1 h2 h3 => exact .lst (s _ _ h1) (DqAll.same s ds _ h2) h3
  | .tuple ds, _, h => by cases h with | tup h1 h2 h3 => exact .tup (s _ _ h1) (DqAll.same s ds _ h2) h3
  | .dict _, _, h => by cases h
theorem DqAll.same {H H' : Hp} (s : Ex H H') : ∀ (ds : List PyData) (vs : List V), DqAll H vs ds → DqAll H' vs ds
  | [], _, h => by cases h; exact .nil
  | d :: ds, _, h => by cases h with | cons h1 h2 => exact .cons (Dq.same s d _ h1) (DqAll.same s ds _ h2)
end
mutual
theorem Dq.dp {K : PySem.W.Frag} {H : Hp} : ∀ (d : PyData) (v : V), Dq H v d → Dp K H v d
  | .none, _, h => by cases h; exact .non
  | .bool _, _, h => by cases h; exact .bl _
  | .int _, _, h => by cases h; exact .int _
  | .str _, _, h => by cases h; exact .str _
  | .list ds, _, h => by cases h with | lst h1 h2 h3 => exact .lst (SqL.of h1) (DqAll.dp ds _ h2)
  | .tuple ds, _, h => by cases h with | tup h1 h2 h3 => exact .tup (SqT.of h1) (DqAll.dp ds _ h2)
  | .dict _, _, h => by cases h
theorem DqAll.dp {K : PySem.W.Frag} {H : Hp} : ∀ (ds : List PyData) (vs : List V), DqAll H vs ds → DpAll K H vs ds
  | [], _, h => by cases h; exact .nil
  | d :: ds, _, h => by cases h with | cons h1 h2 => exact .cons (Dq.dp d _ h1) (DqAll.dp ds _ h2)
end
mutual
theorem Dq.lay {H : Hp} : ∀ (d : PyData) (v : V), Dq H v d → PyData.canLay0 d = true
  | .none, _, h => by simp [PyData.canLay0]
  | .bool _, _, h => by simp [PyData.canLay0]
  | .int _, _, h => by simp [PyData.canLay0]
  | .str _, _, h => by cases h with | str _ h1 h2 => simpa [PyData.canLay0] using h2
  | .list ds, _, h => by cases h with | lst h1 h2 h3 => simpa [PyData.canLay0] using DqAll.lay ds _ h2
  | .tuple ds, _, h => by cases h with | tup h1 h2 h3 => simpa [PyData.canLay0] using DqAll.lay ds _ h2
  | .dict _, _, h => by cases h
theorem DqAll.lay {H : Hp} : ∀ (ds : List PyData) (vs : List V), DqAll H vs ds → PyData.canLayAll0 ds = true
  | [], _, h => by simp [PyData.canLayAll0]
  | d :: ds, _, h => by cases h with | cons h1 h2 => simp [PyData.canLayAll0, Dq.lay d _ h1, DqAll.lay ds _ h2]
end
theorem DqAll.len {H : Hp} : ∀ {vs : List V} {ds : List PyData}, DqAll H vs ds → vs.length = ds.length
  | _, _, .nil => rfl
  | _, _, .cons _ h => by rw [List.length_cons, List.length_cons, h.len]
theorem DqAll.get {H : Hp} : ∀ {vs : List V} {ds : List PyData} (i : Nat) {x : V}, DqAll H vs ds → vs[i]? = some x → ∃ d, ds[i]? = some d ∧ Dq H x d
  | _, _, i, _, .nil, h => by simp at h
  | _, _, 0, _, .cons h1 _, h => ⟨_, rfl, by cases (show some _ = some _ from h); exact h1⟩
  | _, _, i + 1, _, .cons _ h2, h => DqAll.get (vs := _) (ds := _) i h2 h
theorem DqAll.get' {H : Hp} : ∀ {vs : List V} {ds : List PyData} (i : Nat) {d : PyData}, DqAll H vs ds → ds[i]? = some d → ∃ x, vs[i]? = some x ∧ Dq H x d
  | _, _, i, _, .nil, h => by simp at h
  | _, _, 0, _, .cons h1 _, h => ⟨_, rfl, by cases (show some _ = some _ from h); exact h1⟩
  | _, _, i + 1, _, .cons _ h2, h => DqAll.get' (vs := _) (ds := _) i h2 h
/-! what kind of data -/
def tyN : PyData → String
  | .none => "NoneType" | .bool _ => "bool" | .int _ => "int" | .str _ => "str" | .list _ => "list" | .tuple _ => "tuple" | .dict _ => "dict"
def isStr : PyData → Bool | .str _ => true | _ => false
def isTup : PyData → Bool | .tuple _ => true | _ => false
def isLst : PyData → Bool | .list _ => true | _ => false
def isBol : PyData → Bool | .bool _ => true | _ => false
def isNum : PyData → Bool | .bool _ => true | .int _ => true | _ => false
def items : PyData → List PyData | .tuple ds => ds | .list ds => ds | _ => []
def at' (d : PyData) (i : Nat) : PyData := (items d).getD i .none
def txt : PyData → Str | .str z => z | _ => ""
def num : PyData → Int | .int i => i | .bool b => if b then 1 else 0 | _ => 0
theorem Dq.ty {K : PySem.W.Frag} {H : Hp} {d : PyData} {v : V} (h : Dq H v d) : TyX K H v (.type (tyN d)) := by
  cases h with
  | non => exact .base .non
  | bl b => exact .base (.bl b)
  | int i => exact .base (.int i)
  | str x _ _ => exact .base (.str x)
  | lst e _ _ => exact .base (.lst e)
  | tup e _ _ => exact .base (.tup e)
theorem kit_str' {K : PySem.W.Frag} : ∀ d : PyData, PySem.W.kitOne K (.type (tyN d)) (.type "str") = some (isStr d)
  | .none => (kit_ty (by decide +kernel) : PySem.W.kitOne K (.type "NoneType") (.type "str") = some false)
  | .bool _ => (kit_ty (by decide +kernel) : PySem.W.kitOne K (.type "bool") (.type "str") = some false)
  | .int _ => (kit_ty (by decide +kernel) : PySem.W.kitOne K (.type "int") (.type "str") = some false)
  | .str _ => (kit_ty (by decide +kernel) : PySem.W.kitOne K (.type "str") (.type "str") = some true)
  | .list _ => (kit_ty (by decide +kernel) : PySem.W.kitOne K (.type "list") (.type "str") = some false)
  | .tuple _ => (kit_ty (by decide +kernel) : PySem.W.kitOne K (.type "tuple") (.type "str") = some false)
  | .dict _ => (kit_ty (by decide +kernel) : PySem.W.kitOne K (.type "dict") (.type "str") = some false)
theorem kit_tup' {K : PySem.W.Frag} : ∀ d : PyData, PySem.W.kitOne K (.type (tyN d)) (.type "tuple") = some (isTup d)
  | .none => (kit_ty (by decide +kernel) : PySem.W.kitOne K (.type "NoneType") (.type "tuple") = some false)
  | .bool _ => (kit_ty (by decide +kernel) : PySem.W.kitOne K (.type "bool") (.type "tuple") = some false)
  | .int _ => (kit_ty (by decide +kernel) : PySem.W.kitOne K (.type "int") (.type "tuple") = some false)
  | .str _ => (kit_ty (by decide +kernel) : PySem.W.kitOne K (.type "str") (.type "tuple") = some false)
  | .list _ => (kit_ty (by decide +kernel) : PySem.W.kitOne K (.type "list") (.type "tuple") = some false)
  | .tuple _ => (kit_ty (by decide +kernel) : PySem.W.kitOne K (.type "tuple") (.type "tuple") = some true)
  | .dict _ => (kit_ty (by decide +kernel) : PySem.W.kitOne K (.type "dict") (.type "tuple") = some false)
theorem kit_lst' {K : PySem.W.Frag} : ∀ d : PyData, PySem.W.kitOne K (.type (tyN d)) (.type "list") = some (isLst d)
  | .none => (kit_ty (by decide +kernel) : PySem.W.kitOne K (.type "NoneType") (.type "list") = some false)
  | .bool _ => (kit_ty (by decide +kernel) : PySem.W.kitOne K (.type "bool") (.type "list") = some false)
  | .int _ => (kit_ty (by decide +kernel) : PySem.W.kitOne K (.type "int") (.type "list") = some false)
  | .str _ => (kit_ty (by decide +kernel) : PySem.W.kitOne K (.type "str") (.type "list") = some false)
  | .list _ => (kit_ty (by decide +kernel) : PySem.W.kitOne K (.type "list") (.type "list") = some true)
  | .tuple _ => (kit_ty (by decide +kernel) : PySem.W.kitOne K (.type "tuple") (.type "list") = some false)
  | .dict _ => (kit_ty (by decide +kernel) : PySem.W.kitOne K (.type "dict") (.type "list") = some false)
theorem kit_bol' {K : PySem.W.Frag} : ∀ d : PyData, PySem.W.kitOne K (.type (tyN d)) (.type "bool") = some (isBol d)
  | .none => (kit_ty (by decide +kernel) : PySem.W.kitOne K (.type "NoneType") (.type "bool") = some false)
  | .bool _ => (kit_ty (by decide +kernel) : PySem.W.kitOne K (.type "bool") (.type "bool") = some true)
  | .int _ => (kit_ty (by decide +kernel) : PySem.W.kitOne K (.type "int") (.type "bool") = some false)
  | .str _ => (kit_ty (by decide +kernel) : PySem.W.kitOne K (.type "str") (.type "bool") = some false)
  | .list _ => (kit_ty (by decide +kernel) : PySem.W.kitOne K (.type "list") (.type "bool") = some false)
  | .tuple _ => (kit_ty (by decide +kernel) : PySem.W.kitOne K (.type "tuple") (.type "bool") = some false)
  | .dict _ => (kit_ty (by decide +kernel) : PySem.W.kitOne K (.type "dict") (.type "bool") = some false)
theorem kit_int' {K : PySem.W.Frag} : ∀ d : PyData, PySem.W.kitOne K (.type (tyN d)) (.type "int") = some (isNum d)
  | .none => (kit_ty (by decide +kernel) : PySem.W.kitOne K (.type "NoneType") (.type "int") = some false)
  | .bool _ => (kit_ty (by decide +kernel) : PySem.W.kitOne K (.type "bool") (.type "int") = some true)
  | .int _ => (kit_ty (by decide +kernel) : PySem.W.kitOne K (.type "int") (.type "int") = some true)
  | .str _ => (kit_ty (by decide +kernel) : PySem.W.kitOne K (.type "str") (.type "int") = some false)
  | .list _ => (kit_ty (by decide +kernel) : PySem.W.kitOne K (.type "list") (.type "int") = some false)
  | .tuple _ => (kit_ty (by decide +kernel) : PySem.W.kitOne K (.type "tuple") (.type "int") = some false)
  | .dict _ => (kit_ty (by decide +kernel) : PySem.W.kitOne K (.type "dict") (.type "int") = some false)
/-- what a reading gives, as data -/
def EvD (te : TE) (σ : L2.St) (H : Hp) (d : PyData) : Prop := ∃ x, Ev te σ H x ∧ Dq H x d
def spD (g : PyData → Bool) : Sp := fun vs H Q _ => ∃ x d, vs = [x] ∧ Dq H x d ∧ ∀ H', Ex H H' → Q (.bl (g d)) H'
section
variable {K : PySem.W.Frag} {σ : L2.St} {H H' : Hp} {ta tb te tx : TE} {t u : TT} {x y z v : V} {d e : PyData}
theorem EvD.mono (s : Ex H H') (h : EvD te σ H d) : EvD te σ H' d := by
  obtain ⟨x, h1, h2⟩ := h
  exact ⟨x, h1.mono s, Dq.same s _ _ h2⟩
theorem evd_var {i : Nat} (h : σ[i]? = some (some x)) (hd : Dq H x d) : EvD (tVar i) σ H d := ⟨x, Evl.ev_var h, hd⟩
theorem ev_isi {T : String} {b : Bool} (h : EvD te σ H d) (hk : PySem.W.kitOne K (.type (tyN d)) (.type T) = some b) : Ev (tCB (rIsi K) (tCons te (tCons (tC (.ty T)) tNil))) σ H (.bl b) := by
  obtain ⟨x, h1, h2⟩ := h
  refine Evl.ev_cb (vs := [x, .ty T]) (Evl.ea_cons h1 (Evl.ea_cons Evl.ev_c Evl.ea_nil)) fun H1 e Q q => ?_
  exact ⟨x, .ty T, _, _, b, rfl, .ty T, (Dq.same e _ _ h2).ty, hk, q H1 (Ex.refl H1)⟩
theorem Dq.tupE (h : Dq H x d) (ht : isTup d = true) : ∃ a xs, x = .ref a ∧ H a = some (.tup xs) ∧ DqAll H xs (items d) ∧ xs.length ≤ 1000 ∧ xs.length = (items d).length := by
  cases h with
  | tup h1 h2 h3 => exact ⟨_, _, rfl, h1, h2, h3, h2.len⟩
  | _ => cases ht
theorem Dq.lstE (h : Dq H x d) (ht : isLst d = true) : ∃ a xs, x = .ref a ∧ H a = some (.lst xs) ∧ DqAll H xs (items d) ∧ xs.length ≤ 1000 ∧ xs.length = (items d).length := by
  cases h with
  | lst h1 h2 h3 => exact ⟨_, _, rfl, h1, h2, h3, h2.len⟩
  | _ => cases ht
theorem Dq.strE (h : Dq H x d) (ht : isStr d = true) : x = .str (txt d) ∧ (txt d).length ≤ 1000 ∧ PyData.strOk (txt d) = true ∧ d = .str (txt d) := by
  cases h with
  | str z h1 h2 => exact ⟨rfl, h1, h2, rfl⟩
  | _ => cases ht
theorem Dq.intE (h : Dq H x d) (ht : isNum d = true) (hb : isBol d = false) : x = .int (num d) ∧ d = .int (num d) := by
  cases h with
  | int i => exact ⟨rfl, rfl⟩
  | bl b => cases hb
  | _ => cases ht
theorem ev_lenD (h : EvD te σ H d) (ht : isTup d = true ∨ isLst d = true) : Ev (tCB (Evl.rLenS K) (tCons te tNil)) σ H (.int ((items d).length : Int)) := by
  obtain ⟨x, h1, h2⟩ := h
  refine Evl.ev_cb (vs := [x]) (Evl.ea_cons h1 Evl.ea_nil) fun H1 e Q q => ?_
  rcases ht with ht | ht
  · obtain ⟨a, xs, rfl, ha, _, _, hl⟩ := h2.tupE ht
    exact ⟨a, xs, rfl, Or.inr (st_of (e _ _ ha)), by rw [hl]; exact q H1 (Ex.refl H1)⟩
  · obtain ⟨a, xs, rfl, ha, _, _, hl⟩ := h2.lstE ht
    exact ⟨a, xs, rfl, Or.inl (sq_of (e _ _ ha)), by rw [hl]; exact q H1 (Ex.refl H1)⟩
theorem atI_nat' {xs : List V} {i : Nat} {y : V} (h : xs[i]? = some y) : atI xs (i : Int) = some y := atI_nat h
theorem evd_atT {i : Nat} (h : EvD te σ H d) (ht : isTup d = true) (hi : i < (items d).length) (hb : Ev tb σ H (.int (i : Int))) : EvD (tOp (rIxT K) te tb) σ H (at' d i) := by
  obtain ⟨x, h1, h2⟩ := h
  obtain ⟨a, xs, rfl, ha, hd, _, hl⟩ := h2.tupE ht
  obtain ⟨y, hy, hq⟩ := hd.get' i (List.getElem?_eq_getElem hi)
  refine ⟨y, Evl.ev_op h1 hb (Evl.rv_ixT (st_of ha) (atI_nat' hy)), ?_⟩
  have e : at' d i = (items d)[i] := by unfold at'; rw [List.getD_eq_getElem?_getD, List.getElem?_eq_getElem hi]; rfl
  rw [e]; exact hq
theorem evd_atL {i : Nat} (h : EvD te σ H d) (ht : isLst d = true) (hi : i < (items d).length) (hb : Ev tb σ H (.int (i : Int))) : EvD (tOp (rIxL K) te tb) σ H (at' d i) := by
  obtain ⟨x, h1, h2⟩ := h
  obtain ⟨a, xs, rfl, ha, hd, _, hl⟩ := h2.lstE ht
  obtain ⟨y, hy, hq⟩ := hd.get' i (List.getElem?_eq_getElem hi)
  refine ⟨y, Evl.ev_op h1 hb (Evl.rv_ixL (sq_of ha) (atI_nat' hy)), ?_⟩
  have e : at' d i = (items d)[i] := by unfold at'; rw [List.getD_eq_getElem?_getD, List.getElem?_eq_getElem hi]; rfl
  rw [e]; exact hq
theorem ev_callB1 {g : PyData → Bool} {E : XK} (h : EvD te σ H d) : Ev (tCall (spD g) [] E (tCons te tNil)) σ H (.bl (g d)) := by
  obtain ⟨x, h1, h2⟩ := h
  exact Evl.ev_call (vs := [x]) (Evl.ea_cons h1 Evl.ea_nil) fun H1 e Q q E => ⟨x, d, rfl, Dq.same e _ _ h2, fun H2 e2 => q H2 e2⟩
theorem vint_dec (i j : Int) : decide (V.int i = V.int j) = decide (i = j) := by
  by_cases h : i = j
  · subst h; simp
  · rw [decide_eq_false h, decide_eq_false (fun e => h (V.int.inj e))]
theorem vstr_dec (z y : Str) : decide (V.str z = V.str y) = decide (z = y) := by
  by_cases h : z = y
  · subst h; simp
  · rw [decide_eq_false h, decide_eq_false (fun e => h (V.str.inj e))]
theorem ev_eqI {i j : Int} (ha : Ev ta σ H (.int i)) (hb : Ev tb σ H (.int j)) : Ev (tOp rEq ta tb) σ H (.bl (decide (i = j))) :=
  Evl.ev_is (Evl.ev_op ha hb (Evl.rv_eq rfl)) (by rw [vint_dec])
theorem ev_eqS {z w : Str} (ha : Ev ta σ H (.str z)) (hb : Ev tb σ H (.str w)) : Ev (tOp rEq ta tb) σ H (.bl (decide (z = w))) :=
  Evl.ev_is (Evl.ev_op ha hb (Evl.rv_eq rfl)) (by rw [vstr_dec])
theorem EvD.strE (h : EvD te σ H d) (ht : isStr d = true) : Ev te σ H (.str (txt d)) := by
  obtain ⟨x, h1, h2⟩ := h
  rw [(h2.strE ht).1] at h1
  exact h1
theorem EvD.intE (h : EvD te σ H d) (ht : isNum d = true) (hb : isBol d = false) : Ev te σ H (.int (num d)) := by
  obtain ⟨x, h1, h2⟩ := h
  rw [(h2.intE ht hb).1] at h1
  exact h1
theorem ev_allB {bs : List Bool} (h : EvL te σ H (bs.map V.bl)) : Ev (tCB (rAll K) (tCons te tNil)) σ H (.bl (bs.all id)) := fun H1 e Q q =>
  h H1 e _ fun p H2 _ e2 h2 => ⟨p, bs, rfl, sq_of h2, q H2 e2⟩
/-- a comprehension over a tuple, each item once: what the element gives, item by item -/
theorem el_lcTm {a : Addr} {xs : List V} {tl : TE} {g : TG} {vs : List Nat} (ys : List V) (h : Ev tl σ H (.ref a)) (hx : H a = some (.tup xs)) (hl : ys.length = xs.length) (hz : xs.length ≤ 40000)
    (hs : ∀ (i : Nat) (x y : V) (H1 : Hp) (R : L2.St → Hp → Prop), Ex H H1 → xs[i]? = some x → ys[i]? = some y → (∀ σ2, wipe σ2 vs = wipe σ vs → Ev te σ2 H1 y → R σ2 H1) → g x (wipe σ vs) H1 R) :
    EvL (tLc (iTup K tl) g tYes te vs) σ H ys := fun H0 e Q q => h H0 e _ fun H1 e1 => ⟨a, rfl, ⟨xs, st_of ((e.trans e1) _ _ hx)⟩, fun Dl hD =>
  lc_tup (xs := xs) (fun i H' => Ex H1 H' ∧ H' Dl = some (.lst (ys.take i))) ⟨Ex.new hD, by rw [List.take_zero]; exact upd_same⟩ (fun i H' _ p => st_of (p.1 _ _ ((e.trans e1) _ _ hx))) (fun i x H' hi p => by
    have hi' : i < xs.length := (List.getElem?_eq_some_iff.mp hi).1
    have hy : ys[i]? = some ys[i] := List.getElem?_eq_getElem (by omega)
    refine hs i x _ H' _ ((e.trans e1).trans p.1) hi hy fun σ2 hw hev => ?_
    have key : te σ2 H' (fun y H4 => ∃ acc, H4 Dl = some (.lst acc) ∧ acc.length < sizeLine ∧ (Ex H1 (upd H4 Dl (.lst (acc ++ [y]))) ∧ upd H4 Dl (.lst (acc ++ [y])) Dl = some (.lst (ys.take (i + 1))))) := ?_
    · exact ⟨hw, key⟩
    refine hev H' (Ex.refl H') _ fun H4 e4 => ⟨ys.take i, e4 _ _ p.2, ?_, Ex.mut (p.1.trans e4) hD, ?_⟩
    · rw [List.length_take]; exact Evl.sz_lt (by omega)
    · rw [upd_same, List.take_add_one, hy]; rfl) (fun H' p => q Dl H' (Evl.fresh_back e1 hD) (e1.trans p.1) (by
    have := p.2
    rw [List.take_of_length_le (by omega)] at this
    exact this))⟩
/-- the same over a list -/
theorem el_lcLm {a : Addr} {xs : List V} {tl : TE} {g : TG} {vs : List Nat} (ys : List V) (h : Ev tl σ H (.ref a)) (hx : H a = some (.lst xs)) (hl : ys.length = xs.length) (hz : xs.length ≤ 40000)
    (hs : ∀ (i : Nat) (x y : V) (H1 : Hp) (R : L2.St → Hp → Prop), Ex H H1 → xs[i]? = some x → ys[i]? = some y → (∀ σ2, wipe σ2 vs = wipe σ vs → Ev te σ2 H1 y → R σ2 H1) → g x (wipe σ vs) H1 R) :
    EvL (tLc (iList K tl) g tYes te vs) σ H ys := fun H0 e Q q => h H0 e _ fun H1 e1 => ⟨a, rfl, ⟨xs, sq_of ((e.trans e1) _ _ hx)⟩, fun Dl hD =>
  lc_list (xs := xs) (fun i H' => Ex H1 H' ∧ H' Dl = some (.lst (ys.take i))) ⟨Ex.new hD, by rw [List.take_zero]; exact upd_same⟩ (fun i H' _ p => sq_of (p.1 _ _ ((e.trans e1) _ _ hx))) (fun i x H' hi p => by
    have hi' : i < xs.length := (List.getElem?_eq_some_iff.mp hi).1
    have hy : ys[i]? = some ys[i] := List.getElem?_eq_getElem (by omega)
    refine hs i x _ H' _ ((e.trans e1).trans p.1) hi hy fun σ2 hw hev => ?_
    have key : te σ2 H' (fun y H4 => ∃ acc, H4 Dl = some (.lst acc) ∧ acc.length < sizeLine ∧ (Ex H1 (upd H4 Dl (.lst (acc ++ [y]))) ∧ upd H4 Dl (.lst (acc ++ [y])) Dl = some (.lst (ys.take (i + 1))))) := ?_
    · exact ⟨hw, key⟩
    refine hev H' (Ex.refl H') _ fun H4 e4 => ⟨ys.take i, e4 _ _ p.2, ?_, Ex.mut (p.1.trans e4) hD, ?_⟩
    · rw [List.length_take]; exact Evl.sz_lt (by omega)
    · rw [upd_same, List.take_add_one, hy]; rfl) (fun H' p => q Dl H' (Evl.fresh_back e1 hD) (e1.trans p.1) (by
    have := p.2
    rw [List.take_of_length_le (by omega)] at this
    exact this))⟩
theorem wipe_set {σ : L2.St} {j : Nat} {x : V} : wipe ((wipe σ [j]).set j (some x)) [j] = wipe σ [j] := by
  show ((σ.set j none).set j (some x)).set j none = σ.set j none
  simp
/-- all([f(x) for x in tuple]) by data -/
theorem ev_allT {j : Nat} {tl : TE} (g : PyData → Bool) (h : EvD tl σ H d) (ht : isTup d = true) (hs : ∀ x d' H1, Ex H H1 → Dq H1 x d' → d' ∈ items d → Ev te ((wipe σ [j]).set j (some x)) H1 (.bl (g d'))) :
    Ev (tCB (rAll K) (tCons (tLc (iTup K tl) (gName j) tYes te [j]) tNil)) σ H (.bl ((items d).all g)) := by
  obtain ⟨x, h1, h2⟩ := h
  obtain ⟨a, xs, rfl, ha, hd, hz, hl⟩ := h2.tupE ht
  refine Evl.ev_is (ev_allB (bs := (items d).map g) ?_) (by rw [List.all_map]; rfl)
  refine el_lcTm (K := K) _ h1 ha (by rw [List.length_map, List.length_map, hl]) (by omega) fun i x y H1 R e hx hy k => ?_
  obtain ⟨d', hd', hq⟩ := hd.get i hx
  rw [List.getElem?_map, List.getElem?_map, hd'] at hy
  cases (show some (V.bl (g d')) = some y from hy)
  exact k _ wipe_set (hs x d' H1 e (Dq.same e _ _ hq) (List.mem_of_getElem? hd'))
theorem ev_allL {j : Nat} {tl : TE} (g : PyData → Bool) (h : EvD tl σ H d) (ht : isLst d = true) (hs : ∀ x d' H1, Ex H H1 → Dq H1 x d' → d' ∈ items d → Ev te ((wipe σ [j]).set j (some x)) H1 (.bl (g d'))) :
    Ev (tCB (rAll K) (tCons (tLc (iList K tl) (gName j) tYes te [j]) tNil)) σ H (.bl ((items d).all g)) := by
  obtain ⟨x, h1, h2⟩ := h
  obtain ⟨a, xs, rfl, ha, hd, hz, hl⟩ := h2.lstE ht
  refine Evl.ev_is (ev_allB (bs := (items d).map g) ?_) (by rw [List.all_map]; rfl)
  refine el_lcLm (K := K) _ h1 ha (by rw [List.length_map, List.length_map, hl]) (by omega) fun i x y H1 R e hx hy k => ?_
  obtain ⟨d', hd', hq⟩ := hd.get i hx
  rw [List.getElem?_map, List.getElem?_map, hd'] at hy
  cases (show some (V.bl (g d')) = some y from hy)
  exact k _ wipe_set (hs x d' H1 e (Dq.same e _ _ hq) (List.mem_of_getElem? hd'))
end
end LF

set_option Elab.async false
set_option linter.all false
set_option maxRecDepth 100000
set_option maxHeartbeats 4000000
namespace LF
open PySem PySem.Spec PyProof.Rows L2
open Evl (Ev EvL EvU EvT EvA Ex sq_of st_of)
/-- < of two ints, of two texts -/
def rLtV : R2 := fun x y H Q => (∃ i j, x = .int i ∧ y = .int j ∧ Q (.bl (decide (i < j))) H) ∨ (∃ i j : Str, x = .str i ∧ y = .str j ∧ Q (.bl (decide (i.cps.toList < j.cps.toList))) H)
theorem op_ltV {X : Cx} : OpR X (compareOp .Lt) rLtV := by
  intro pins s σ H x y v u Q I rx ry h
  rcases h with h | h
  · exact op_lt pins s σ H x y v u Q I rx ry h
  · exact op_lt_str pins s σ H x y v u Q I rx ry h
def ltD : PyData → PyData → Bool
  | .int i, .int j => decide (i < j)
  | .str i, .str j => decide (i.cps.toList < j.cps.toList)
  | _, _ => false
def kin (ds : List PyData) : Prop := (∀ d ∈ ds, isNum d = true ∧ isBol d = false) ∨ (∀ d ∈ ds, isStr d = true)
def ascD (ds : List PyData) : Bool := (List.range (ds.length - 1)).all fun i => ltD (ds.getD i .none) (ds.getD (i + 1) .none)
section
variable {K : PySem.W.Frag} {σ : L2.St} {H H' : Hp} {ta tb te tx : TE} {t u : TT} {x y z v : V} {d e : PyData}
theorem ev_ltD (ha : EvD ta σ H d) (hb : EvD tb σ H e) (hk : kin [d, e]) : Ev (tOp rLtV ta tb) σ H (.bl (ltD d e)) := by
  rcases hk with hk | hk
  · obtain ⟨a1, a2⟩ := hk d (by simp)
    obtain ⟨b1, b2⟩ := hk e (by simp)
    obtain ⟨x, h1, h2⟩ := ha
    obtain ⟨y, h3, h4⟩ := hb
    obtain ⟨r1, r2⟩ := h2.intE a1 a2
    obtain ⟨r3, r4⟩ := h4.intE b1 b2
    rw [r1] at h1; rw [r3] at h3
    refine Evl.ev_op h1 h3 fun H1 e1 Q q => Or.inl ⟨_, _, rfl, rfl, ?_⟩
    rw [r2, r4] at q
    exact q H1 (Ex.refl H1)
  · have a1 := hk d (by simp)
    have b1 := hk e (by simp)
    obtain ⟨x, h1, h2⟩ := ha
    obtain ⟨y, h3, h4⟩ := hb
    obtain ⟨r1, _, _, r2⟩ := h2.strE a1
    obtain ⟨r3, _, _, r4⟩ := h4.strE b1
    rw [r1] at h1; rw [r3] at h3
    refine Evl.ev_op h1 h3 fun H1 e1 Q q => Or.inr ⟨_, _, rfl, rfl, ?_⟩
    rw [r2, r4] at q
    exact q H1 (Ex.refl H1)
def isSeq (d : PyData) : Bool := isTup d || isLst d
theorem ev_lenQ (h : EvD te σ H d) (ht : isSeq d = true) : Ev (tCB (Evl.rLenS K) (tCons te tNil)) σ H (.int ((items d).length : Int)) :=
  ev_lenD h (by unfold isSeq at ht; rcases Bool.or_eq_true _ _ ▸ ht with h | h; exact Or.inl h; exact Or.inr h)
theorem at_of {ds : List PyData} {i : Nat} (hd : items d = ds) (hi : i < ds.length) : at' d i = ds[i] := by
  unfold at'; rw [hd, List.getD_eq_getElem?_getD, List.getElem?_eq_getElem hi]; rfl
theorem evd_atQ {i : Nat} (h : EvD te σ H d) (ht : isSeq d = true) (hi : i < (items d).length) (hb : Ev tb σ H (.int (i : Int))) : EvD (tOp (rIx K) te tb) σ H (at' d i) := by
  obtain ⟨x, h1, h2⟩ := h
  cases h3 : isTup d with
  | true =>
    obtain ⟨a, xs, rfl, ha, hd, _, hl⟩ := h2.tupE h3
    obtain ⟨y, hy, hq⟩ := hd.get' i (List.getElem?_eq_getElem hi)
    refine ⟨y, Evl.ev_op h1 hb (fun H2 e2 Q q => Or.inr (Or.inl ⟨a, xs, _, y, rfl, rfl, st_of (e2 _ _ ha), atI_nat' hy, q H2 (Ex.refl H2)⟩)), ?_⟩
    rw [at_of rfl hi]; exact hq
  | false =>
    have h4 : isLst d = true := by unfold isSeq at ht; rw [h3] at ht; exact ht
    obtain ⟨a, xs, rfl, ha, hd, _, hl⟩ := h2.lstE h4
    obtain ⟨y, hy, hq⟩ := hd.get' i (List.getElem?_eq_getElem hi)
    refine ⟨y, Evl.ev_op h1 hb (fun H2 e2 Q q => Or.inl ⟨a, xs, _, y, rfl, rfl, sq_of (e2 _ _ ha), atI_nat' hy, q H2 (Ex.refl H2)⟩), ?_⟩
    rw [at_of rfl hi]; exact hq
/-- all([.. for at in range(n)]), n at least -1 -/
theorem ev_allR {ta : TA} {j : Nat} {n : Int} (g : Nat → Bool) (h : EvA ta σ H [.int n]) (hn : -1 ≤ n ∧ n ≤ 40000)
    (he : ∀ (i : Nat) H1, Ex H H1 → (i : Int) < n → Ev te ((wipe σ [j]).set j (some (.int (i : Int)))) H1 (.bl (g i))) :
    Ev (tCB (rAll K) (tCons (tLc (iRng1 ta) (gName j) tYes te [j]) tNil)) σ H (.bl ((List.range n.toNat).all g)) := by
  refine Evl.ev_is (ev_allB (bs := (List.range n.toNat).map g) ?_) (by rw [List.all_map]; rfl)
  have el : EvL (tLc (iRng1 ta) (gName j) tYes te [j]) σ H (Evl.given n.toNat (fun _ => true) fun i => .bl (g i)) := by
    by_cases hn0 : 0 ≤ n
    · exact Evl.el_lcR1 _ _ h ⟨hn0, hn.2⟩ (fun x => wipe_set) (fun i H1 e hi => fun H2 e2 Q q => q H2 (Ex.refl H2)) (fun i H1 e hi _ => he i H1 e hi)
    · have e1 : n = -1 := by omega
      subst e1
      refine fun H0 e Q q => h H0 e _ fun H1 e1 => ⟨-1, rfl, by omega, by omega, fun Dl hD => ?_⟩
      exact lc_range (lo := 0) (n := 0) (fun i H' => Ex H1 H' ∧ H' Dl = some (.lst [])) ⟨Ex.new hD, upd_same⟩ (fun i H' hi p => absurd hi (by omega)) (fun H' p => q Dl H' (Evl.fresh_back e1 hD) (e1.trans p.1) p.2)
  have e2 : Evl.given n.toNat (fun _ => true) (fun i => V.bl (g i)) = ((List.range n.toNat).map g).map V.bl := by
    unfold Evl.given
    rw [List.filter_eq_self.mpr (fun _ _ => rfl), List.map_map]; rfl
  rw [← e2]; exact el
theorem ev_subI {i j : Int} (ha : Ev ta σ H (.int i)) (hb : Ev tb σ H (.int j)) : Ev (tOp (rI0 fun i j => .int (i - j)) ta tb) σ H (.int (i - j)) := Evl.ev_op ha hb Evl.rv_I0
end
end LF

set_option Elab.async false
set_option linter.all false
set_option maxRecDepth 100000
set_option maxHeartbeats 4000000
namespace LF
open PySem PySem.Spec PyProof.Rows L2
open Evl (Ev EvL EvU EvT EvA Ex sq_of st_of)
def one (fk : Addr) (sp : Sp) : Addr → Option Sp := fun f => if f = fk then some sp else none
theorem held_one {P : Program} {w : World} {K : PySem.W.Frag} {mg : Str → Option Value} {base : Heap} {x : Str} {k : Nat} {fk : Addr} {fd : FuncData} {ps : List Str} {sp : Sp} (D : DefAt P w K mg base x k fk fd ps sp) :
    ∀ f sp', one fk sp f = some sp' → Held P w K mg base k f sp' := fun f sp' h => by
  unfold one at h
  split at h
  · rename_i e
    cases h
    subst e
    exact ⟨fd, ps, D.F, D.kp, D.b⟩
  · cases h
def isPair (p : PyData) : Bool := isTup p && decide (((items p).length : Int) = 2)
def isNon : PyData → Bool | .none => true | _ => false
section
variable {K : PySem.W.Frag} {σ : L2.St} {H H' : Hp} {ta tb te tx : TE} {t u : TT} {x y z v : V} {d e : PyData}
theorem ev_callA1 {i : Nat} {fk : Addr} {g : PyData → Bool} (hi : σ[i]? = some (some (.ref fk))) (h : EvD te σ H d) : Ev (tCallA i (one fk (spD g)) (tCons te tNil)) σ H (.bl (g d)) := fun H1 e Q q => by
  obtain ⟨x, h1, h2⟩ := h
  refine ⟨fk, spD g, hi, by unfold one; rw [if_pos rfl], ?_⟩
  refine h1 H1 e _ fun H2 e2 => ?_
  exact ⟨x, d, rfl, Dq.same (e.trans e2) _ _ h2, fun H3 e3 => q H3 (e2.trans e3)⟩
theorem ev_isN (h : EvD te σ H d) : Ev (tOp (fun x y H Q => y = .non ∧ Q (.bl (decide (x = .non))) H) te (tC .non)) σ H (.bl (isNon d)) := by
  obtain ⟨x, h1, h2⟩ := h
  refine Evl.ev_op h1 Evl.ev_c fun H1 e Q q => ⟨rfl, ?_⟩
  have : decide (x = V.non) = isNon d := by cases h2 <;> rfl
  rw [this]; exact q H1 (Ex.refl H1)
theorem pairE (h : Dq H x d) (hp : isPair d = true) : ∃ a u v, x = .ref a ∧ H a = some (.tup [u, v]) ∧ Dq H u (at' d 0) ∧ Dq H v (at' d 1) := by
  unfold isPair at hp
  rw [Bool.and_eq_true] at hp
  obtain ⟨a, xs, rfl, ha, hd, _, hl⟩ := h.tupE hp.1
  have h2 : (items d).length = 2 := by have := of_decide_eq_true hp.2; omega
  obtain ⟨u, hu, du⟩ := hd.get' 0 (List.getElem?_eq_getElem (by omega))
  obtain ⟨v, hv, dv⟩ := hd.get' 1 (List.getElem?_eq_getElem (by omega))
  have e : xs = [u, v] := by
    match xs, hl.trans h2, hu, hv with
    | [a, b], _, hu, hv => cases (show some a = some u from hu); cases (show some b = some v from hv); rfl
  refine ⟨a, u, v, rfl, by rw [← e]; exact ha, ?_, ?_⟩
  · rw [at_of rfl (by omega)]; exact du
  · rw [at_of rfl (by omega)]; exact dv
theorem ev_allT2 {j k : Nat} {tl : TE} (g : PyData → Bool) (h : EvD tl σ H d) (ht : isTup d = true) (hp : (items d).all isPair = true)
    (hw : ∀ x y, wipe ((((wipe σ [j, k]).set j (some x)).set k (some y))) [j, k] = wipe σ [j, k])
    (hs : ∀ x y p H1, Ex H H1 → p ∈ items d → Dq H1 x (at' p 0) → Dq H1 y (at' p 1) → Ev te (((wipe σ [j, k]).set j (some x)).set k (some y)) H1 (.bl (g p))) :
    Ev (tCB (rAll K) (tCons (tLc (iTup K tl) (gTup K 2 (gCons (gName j) (gCons (gName k) gNil))) tYes te [j, k]) tNil)) σ H (.bl ((items d).all g)) := by
  obtain ⟨x, h1, h2⟩ := h
  obtain ⟨a, xs, rfl, ha, hd, hz, hl⟩ := h2.tupE ht
  refine Evl.ev_is (ev_allB (bs := (items d).map g) ?_) (by rw [List.all_map]; rfl)
  refine el_lcTm (K := K) _ h1 ha (by rw [List.length_map, List.length_map, hl]) (by omega) fun i x y H1 R e hx hy kk => ?_
  obtain ⟨p, hd', hq⟩ := hd.get i hx
  rw [List.getElem?_map, List.getElem?_map, hd'] at hy
  cases (show some (V.bl (g p)) = some y from hy)
  have hm := List.mem_of_getElem? hd'
  obtain ⟨b, u, v, rfl, hb, du, dv⟩ := pairE (Dq.same e _ _ hq) (List.all_eq_true.mp hp p hm)
  exact ⟨b, [u, v], rfl, st_of hb, rfl, u, [v], rfl, v, [], rfl, rfl, kk _ (hw u v) (hs u v p H1 e hm du dv)⟩
/-- the first items of pairs -/
theorem firsts : ∀ {vs : List V} {ds : List PyData}, DqAll H vs ds → ds.all isPair = true → ∃ ks, DqAll H ks (ds.map (at' · 0)) ∧ ∀ (i : Nat) x y, vs[i]? = some x → ks[i]? = some y → ∃ a w, x = .ref a ∧ H a = some (.tup [y, w])
  | _, _, .nil, _ => ⟨[], .nil, fun i x y h => by simp at h⟩
  | _, _, .cons h1 h2, hp => by
    rw [List.all_cons, Bool.and_eq_true] at hp
    obtain ⟨ks, q1, q2⟩ := firsts h2 hp.2
    obtain ⟨a, u, v, rfl, ha, du, dv⟩ := pairE h1 hp.1
    refine ⟨u :: ks, .cons du q1, fun i x y hx hy => ?_⟩
    cases i with
    | zero => cases (show some _ = some x from hx); cases (show some u = some y from hy); exact ⟨a, v, rfl, ha⟩
    | succ i => exact q2 i x y hx hy
theorem el_firsts {j k : Nat} {tl : TE} (h : EvD tl σ H d) (ht : isTup d = true) (hp : (items d).all isPair = true)
    (hw : ∀ x y, wipe ((((wipe σ [j, k]).set j (some x)).set k (some y))) [j, k] = wipe σ [j, k]) (hj : ∀ x y, (((wipe σ [j, k]).set j (some x)).set k (some y))[j]? = some (some x)) :
    ∃ ks, DqAll H ks ((items d).map (at' · 0)) ∧ EvL (tLc (iTup K tl) (gTup K 2 (gCons (gName j) (gCons (gName k) gNil))) tYes (tVar j) [j, k]) σ H ks := by
  obtain ⟨x, h1, h2⟩ := h
  obtain ⟨a, xs, rfl, ha, hd, hz, hl⟩ := h2.tupE ht
  obtain ⟨ks, q1, q2⟩ := firsts hd hp
  refine ⟨ks, q1, ?_⟩
  have hlk := q1.len
  rw [List.length_map] at hlk
  refine el_lcTm (K := K) ks h1 ha (by omega) (by omega) fun i x y H1 R e hx hy kk => ?_
  obtain ⟨b, w, rfl, hb⟩ := q2 i x y hx hy
  exact ⟨b, [y, w], rfl, st_of (e _ _ hb), rfl, y, [w], rfl, w, [], rfl, rfl, kk _ (hw y w) (Evl.ev_var (hj y w))⟩
theorem ev_callL1 {ks : List V} {ds : List PyData} {sp : Sp} {E : XK} {b : Bool} (h : EvL te σ H ks) (hd : DqAll H ks ds) (hz : ks.length ≤ 1000)
    (hs : ∀ p H1 Q E, Dq H1 (.ref p) (.list ds) → (∀ H2, Ex H1 H2 → Q (.bl b) H2) → sp [.ref p] H1 Q E) : Ev (tCall sp [] E (tCons te tNil)) σ H (.bl b) := fun H1 e Q q =>
  h H1 e _ fun p H2 _ e2 h2 => hs p H2 Q E (.lst h2 (DqAll.same (e.trans e2) _ _ hd) hz) fun H3 e3 => q H3 (e2.trans e3)
end
end LF

set_option Elab.async false
set_option linter.all false
set_option maxRecDepth 100000
set_option maxHeartbeats 4000000
namespace LF
open PySem PySem.Spec PyProof.Rows L2
open Evl (Ev EvL EvU EvT EvA Ex sq_of st_of)
theorem FnOk.or {P : Program} {w : World} {K : PySem.W.Frag} {mg : Str → Option Value} {base : Heap} {CX : CXT} {k : Nat} {f : Addr} {fd : FuncData} {ps : List Str} {sp sp' : Sp} (F : FnOk P w K mg base CX k f fd ps sp) (G : FnOk P w K mg base CX k f fd ps sp') :
    FnOk P w K mg base CX k f fd ps (fun vs H Q E => sp vs H Q E ∨ sp' vs H Q E) :=
  ⟨fun vs H Q E h => h.elim (F.len vs H Q E) (G.len vs H Q E), fun A outer s H args us vs Q E hr h0 hb hv h => h.elim (F.run A outer s H args us vs Q E hr h0 hb hv) (G.run A outer s H args us vs Q E hr h0 hb hv)⟩
/-- a list or a dict, of anything -/
def Opq (H : Hp) (x : V) : Prop := ∃ a, x = .ref a ∧ ((∃ xs, H a = some (.lst xs)) ∨ ∃ kvs, H a = some (.dK kvs))
theorem Opq.same {H H' : Hp} {x : V} (h : Opq H x) (s : Ex H H') : Opq H' x := by
  obtain ⟨a, rfl, h⟩ := h
  rcases h with ⟨xs, h⟩ | ⟨xs, h⟩
  · exact ⟨a, rfl, Or.inl ⟨xs, s _ _ h⟩⟩
  · exact ⟨a, rfl, Or.inr ⟨xs, s _ _ h⟩⟩
theorem Opq.ty {K : PySem.W.Frag} {H : Hp} {x : V} (h : Opq H x) : ∃ t, TyX K H x (.type t) ∧ PySem.W.kitOne K (.type t) (.type "tuple") = some false := by
  obtain ⟨a, rfl, h⟩ := h
  rcases h with ⟨xs, h⟩ | ⟨xs, h⟩
  · exact ⟨"list", .base (.lst h), kit_ty (by decide +kernel)⟩
  · exact ⟨"dict", .base (.dK h), kit_ty (by decide +kernel)⟩
/-- an item of a list of deeds: data, or a list or a dict -/
def El (H : Hp) (x : V) : Option PyData → Prop
  | some d => Dq H x d
  | none => Opq H x
theorem El.same {H H' : Hp} {x : V} {o : Option PyData} (h : El H x o) (s : Ex H H') : El H' x o := by
  cases o with
  | some d => exact Dq.same s _ _ h
  | none => exact Opq.same h s
inductive ElAll (H : Hp) : List V → List (Option PyData) → Prop
  | nil : ElAll H [] []
  | cons {v : V} {vs : List V} {d : Option PyData} {ds : List (Option PyData)} : El H v d → ElAll H vs ds → ElAll H (v :: vs) (d :: ds)
theorem ElAll.same {H H' : Hp} (s : Ex H H') : ∀ {vs : List V} {ds : List (Option PyData)}, ElAll H vs ds → ElAll H' vs ds
  | _, _, .nil => .nil
  | _, _, .cons h1 h2 => .cons (h1.same s) (h2.same s)
theorem ElAll.len {H : Hp} : ∀ {vs : List V} {ds : List (Option PyData)}, ElAll H vs ds → vs.length = ds.length
  | _, _, .nil => rfl
  | _, _, .cons _ h => by rw [List.length_cons, List.length_cons, h.len]
theorem ElAll.get {H : Hp} : ∀ {vs : List V} {ds : List (Option PyData)} (i : Nat) {x : V}, ElAll H vs ds → vs[i]? = some x → ∃ d, ds[i]? = some d ∧ El H x d
  | _, _, i, _, .nil, h => by simp at h
  | _, _, 0, _, .cons h1 _, h => ⟨_, rfl, by cases (show some _ = some _ from h); exact h1⟩
  | _, _, i + 1, _, .cons _ h2, h => ElAll.get (vs := _) (ds := _) i h2 h
theorem ElAll.get' {H : Hp} : ∀ {vs : List V} {ds : List (Option PyData)} (i : Nat) {d : Option PyData}, ElAll H vs ds → ds[i]? = some d → ∃ x, vs[i]? = some x ∧ El H x d
  | _, _, i, _, .nil, h => by simp at h
  | _, _, 0, _, .cons h1 _, h => ⟨_, rfl, by cases (show some _ = some _ from h); exact h1⟩
  | _, _, i + 1, _, .cons _ h2, h => ElAll.get' (vs := _) (ds := _) i h2 h
/-- a value that is asked: a list of such items, or no list -/
def Tp (H : Hp) (x : V) : Option (List (Option PyData)) → Prop
  | some es => ∃ a xs, x = .ref a ∧ H a = some (.lst xs) ∧ ElAll H xs es ∧ xs.length ≤ 60
  | none => (∃ d, Dq H x d ∧ isLst d = false) ∨ (∃ a kvs, x = .ref a ∧ H a = some (.dK kvs)) ∨ ∃ a xs, x = .ref a ∧ H a = some (.tup xs)
theorem Tp.same {H H' : Hp} {x : V} {o : Option (List (Option PyData))} (h : Tp H x o) (s : Ex H H') : Tp H' x o := by
  cases o with
  | some es =>
    obtain ⟨a, xs, h1, h2, h3, h4⟩ := h
    exact ⟨a, xs, h1, s _ _ h2, h3.same s, h4⟩
  | none =>
    rcases h with ⟨d, h1, h2⟩ | ⟨a, kvs, h1, h2⟩ | ⟨a, kvs, h1, h2⟩
    · exact Or.inl ⟨d, Dq.same s _ _ h1, h2⟩
    · exact Or.inr (Or.inl ⟨a, kvs, h1, s _ _ h2⟩)
    · exact Or.inr (Or.inr ⟨a, kvs, h1, s _ _ h2⟩)
theorem Tp.isi {K : PySem.W.Frag} {te : TE} {σ : L2.St} {H : Hp} {x : V} {o : Option (List (Option PyData))} (h : Tp H x o) (hx : Ev te σ H x) : Ev (tCB (rIsi K) (tCons te (tCons (tC (.ty "list")) tNil))) σ H (.bl o.isSome) := by
  refine Evl.ev_cb (vs := [x, .ty "list"]) (Evl.ea_cons hx (Evl.ea_cons Evl.ev_c Evl.ea_nil)) fun H1 e Q q => ?_
  have q1 := q H1 (Ex.refl H1)
  cases o with
  | some es =>
    obtain ⟨a, xs, rfl, h2, h3, h4⟩ := h
    exact ⟨_, .ty "list", _, _, true, rfl, .ty _, .base (.lst (e _ _ h2)), kit_ty (by decide +kernel), q1⟩
  | none =>
    rcases h with ⟨d, h1, h2⟩ | ⟨a, kvs, rfl, h2⟩ | ⟨a, kvs, rfl, h2⟩
    · exact ⟨_, .ty "list", _, _, false, rfl, .ty _, (Dq.same e _ _ h1).ty, by rw [kit_lst', h2], q1⟩
    · exact ⟨_, .ty "list", _, _, false, rfl, .ty _, .base (.dK (e _ _ h2)), kit_ty (by decide +kernel), q1⟩
    · exact ⟨_, .ty "list", _, _, false, rfl, .ty _, .base (.tup (e _ _ h2)), kit_ty (by decide +kernel), q1⟩
def elG (g : PyData → Bool) : Option PyData → Bool
  | some d => g d
  | none => false
def spE (g : PyData → Bool) : Sp := fun vs H Q E => spD g vs H Q E ∨ ∃ x, vs = [x] ∧ Opq H x ∧ ∀ H', Ex H H' → Q (.bl false) H'
section
variable {K : PySem.W.Frag} {σ : L2.St} {H H' : Hp} {ta tb te tx : TE} {t u : TT} {x y z v : V} {d e : PyData}
theorem ev_callE {g : PyData → Bool} {E : XK} {o : Option PyData} (h : Ev te σ H x) (ho : El H x o) : Ev (tCall (spE g) [] E (tCons te tNil)) σ H (.bl (elG g o)) := by
  refine Evl.ev_call (vs := [x]) (Evl.ea_cons h Evl.ea_nil) fun H1 e Q q E => ?_
  cases o with
  | some d => exact Or.inl ⟨x, d, rfl, Dq.same e _ _ ho, fun H2 e2 => q H2 e2⟩
  | none => exact Or.inr ⟨x, rfl, Opq.same ho e, fun H2 e2 => q H2 e2⟩
theorem ev_allE {j : Nat} {tl : TE} {a : Addr} {xs : List V} {es : List (Option PyData)} (g : Option PyData → Bool) (h : Ev tl σ H (.ref a)) (ha : H a = some (.lst xs)) (hd : ElAll H xs es) (hz : xs.length ≤ 60)
    (hs : ∀ x o H1, Ex H H1 → El H1 x o → o ∈ es → Ev te ((wipe σ [j]).set j (some x)) H1 (.bl (g o))) :
    Ev (tCB (rAll K) (tCons (tLc (iList K tl) (gName j) tYes te [j]) tNil)) σ H (.bl (es.all g)) := by
  refine Evl.ev_is (ev_allB (bs := es.map g) ?_) (by rw [List.all_map]; rfl)
  refine el_lcLm (K := K) _ h ha (by rw [List.length_map, List.length_map, hd.len]) (by omega) fun i x y H1 R e hx hy k => ?_
  obtain ⟨o, ho, hq⟩ := hd.get i hx
  rw [List.getElem?_map, List.getElem?_map, ho] at hy
  cases (show some (V.bl (g o)) = some y from hy)
  exact k _ wipe_set (hs x o H1 e (hq.same e) (List.mem_of_getElem? ho))
theorem ev_lenX {a : Addr} {xs : List V} (h : Ev te σ H (.ref a)) (ha : H a = some (.lst xs)) : Ev (tCB (Evl.rLenS K) (tCons te tNil)) σ H (.int (xs.length : Int)) :=
  Evl.ev_cb (vs := [.ref a]) (Evl.ea_cons h Evl.ea_nil) fun H1 e Q q => ⟨a, xs, rfl, Or.inl (sq_of (e _ _ ha)), q H1 (Ex.refl H1)⟩
end
end LF

set_option Elab.async false
set_option linter.all false
set_option maxRecDepth 100000
set_option maxHeartbeats 4000000
namespace LF
open PySem PySem.Spec PyProof.Rows L2
open Evl (Ev EvL EvU EvT EvA EvO Ex sq_of st_of)
/-- the bag of draws, so many drawn at most -/
def BagC (H : Hp) (b : Addr) (N : Nat) : Prop := ∃ d x n : Int, H b = some (.lst [.int d, .int x, .int n]) ∧ 0 ≤ d ∧ 0 ≤ x ∧ x < 2147483648 ∧ 0 ≤ n ∧ n ≤ N
theorem BagC.same {H H' : Hp} {b : Addr} {N : Nat} (h : BagC H b N) (s : Same H H') : BagC H' b N := by
  obtain ⟨d, x, m, e, r⟩ := h
  exact ⟨d, x, m, s _ _ e, r⟩
theorem BagC.ne {H : Hp} {b D : Addr} {N : Nat} (h : BagC H b N) (hD : H D = none) : D ≠ b := by
  obtain ⟨d, x, m, e, r⟩ := h
  exact Ne.symm (ne_of_none e hD)
theorem BagC.more {H : Hp} {b : Addr} {N M : Nat} (h : BagC H b N) (hm : N ≤ M) : BagC H b M := by
  obtain ⟨d, x, m, e, h1, h2, h3, h4, h5⟩ := h
  exact ⟨d, x, m, e, h1, h2, h3, h4, by omega⟩
def spBagC (K : PySem.W.Frag) : Sp := fun vs H Q _ => ∃ (a : Addr) (at' : Int) (ns : List Int), vs = [.ref a, .int at'] ∧ SqL K H a (ns.map V.int) ∧ 0 ≤ at' ∧ at' ≤ 1000 ∧
  ∀ H' p, Same H H' → H p = none → BagC H' p 0 → Q (.ref p) H'
def spTakeC : Sp := fun vs H Q _ => ∃ (b : Addr) (m : Int) (N : Nat), vs = [.ref b, .int m] ∧ BagC H b N ∧ N ≤ 1000000 ∧ 1 ≤ m ∧ m < 1000000 ∧
  ∀ H' r, Keep b H H' → BagC H' b (N + 1) → 0 ≤ r → r < m → Q (.int r) H'
def spPickC (K : PySem.W.Frag) : Sp := fun vs H Q _ => ∃ (b l : Addr) (xs : List V) (N : Nat), vs = [.ref b, .ref l] ∧ BagC H b N ∧ N ≤ 900000 ∧ l ≠ b ∧ SqL K H l xs ∧ 1 ≤ xs.length ∧ xs.length < 1000000 ∧
  ∀ H' v, Keep b H H' → BagC H' b (N + 1) → v ∈ xs → Q v H'
/-! readings that draw from the bag at b, while the objects at B may change -/
def wo (B : List Addr) (H : Hp) : Hp := fun a => if a ∈ B then none else H a
theorem wo_get {B : List Addr} {H : Hp} {a : Addr} {o : HO} (h : wo B H a = some o) : a ∉ B ∧ H a = some o := by
  unfold wo at h
  split at h
  · cases h
  · rename_i n; exact ⟨n, h⟩
theorem wo_put {B : List Addr} {H : Hp} {a : Addr} {o : HO} (n : a ∉ B) (h : H a = some o) : wo B H a = some o := by
  unfold wo
  rw [if_neg n]; exact h
theorem wo_ex {B : List Addr} {H : Hp} : Ex (wo B H) H := fun a o h => (wo_get h).2
theorem wo_keep {b : Addr} {B : List Addr} {H H' : Hp} (hb : b ∈ B) (k : Keep b H H') : Ex (wo B H) (wo B H') := fun a o h => by
  obtain ⟨n, h⟩ := wo_get h
  exact wo_put n (k a o (fun e => n (e ▸ hb)) h)
theorem wo_less {B B' : List Addr} {H : Hp} (h : ∀ a ∈ B', a ∈ B) : Ex (wo B H) (wo B' H) := fun a o e => by
  obtain ⟨n, e⟩ := wo_get e
  exact wo_put (fun m => n (h a m)) e
structure BgAt (b : Addr) (B : List Addr) (N : Nat) (H : Hp) : Prop where
  bag : BagC H b N
  inB : b ∈ B
  live : ∀ a ∈ B, ∃ o, H a = some o
theorem BgAt.keep {b : Addr} {B : List Addr} {H H' : Hp} {N M : Nat} (g : BgAt b B N H) (k : Keep b H H') (h : BagC H' b M) : BgAt b B M H' :=
  ⟨h, g.inB, fun a ha => by
    by_cases e : a = b
    · subst e
      obtain ⟨_, _, _, h, _⟩ := h
      exact ⟨_, h⟩
    · obtain ⟨o, ho⟩ := g.live a ha
      exact ⟨o, k a o e ho⟩⟩
theorem BgAt.new {b : Addr} {B : List Addr} {H : Hp} {N : Nat} {p : Addr} {o : HO} (g : BgAt b B N H) (hp : H p = none) : p ∉ B ∧ BgAt b B N (upd H p o) ∧ Keep b H (upd H p o) := by
  refine ⟨fun m => ?_, g.keep (Same.keep (same_new hp)) (g.bag.same (same_new hp)), Same.keep (same_new hp)⟩
  obtain ⟨o, ho⟩ := g.live p m
  rw [hp] at ho; cases ho
/-- te reads something of which P holds, by m draws at most -/
def EK (b : Addr) (B : List Addr) (m : Nat) (te : TE) (σ : L2.St) (H : Hp) (P : V → Hp → Prop) : Prop := ∀ N H1, N + m ≤ 900000 → Keep b H H1 → BgAt b B N H1 → ∀ Q : VK, (∀ x H2 M, M ≤ N + m → Keep b H1 H2 → BgAt b B M H2 → P x H2 → Q x H2) → te σ H1 Q
def EKA (b : Addr) (B : List Addr) (m : Nat) (ta : TA) (σ : L2.St) (H : Hp) (P : List V → Hp → Prop) : Prop := ∀ N H1, N + m ≤ 900000 → Keep b H H1 → BgAt b B N H1 → ∀ Q : List V → Hp → Prop, (∀ x H2 M, M ≤ N + m → Keep b H1 H2 → BgAt b B M H2 → P x H2 → Q x H2) → ta σ H1 Q
def EKT (b : Addr) (B : List Addr) (m : Nat) (tt : TT) (σ : L2.St) (H : Hp) : Prop := ∀ N H1, N + m ≤ 900000 → Keep b H H1 → BgAt b B N H1 → ∀ Q : Bool → Hp → Prop, (∀ x H2 M, M ≤ N + m → Keep b H1 H2 → BgAt b B M H2 → Q x H2) → tt σ H1 Q
/-- all is as it was, but what stands at B -/
def KeepB (B : List Addr) (H H' : Hp) : Prop := ∀ a o, a ∉ B → H a = some o → H' a = some o
theorem KeepB.refl (B : List Addr) (H : Hp) : KeepB B H H := fun _ _ _ e => e
theorem KeepB.trans {B : List Addr} {H H1 H2 : Hp} (x : KeepB B H H1) (y : KeepB B H1 H2) : KeepB B H H2 := fun a o n e => y a o n (x a o n e)
theorem kb {b : Addr} {B : List Addr} {H H' : Hp} (hb : b ∈ B) (k : Keep b H H') : KeepB B H H' := fun a o n e => k a o (fun z => n (z ▸ hb)) e
theorem wo_keepB {B : List Addr} {H H' : Hp} (k : KeepB B H H') : Ex (wo B H) (wo B H') := fun a o h => by
  obtain ⟨n, h⟩ := wo_get h
  exact wo_put n (k a o n h)
def Stb (B : List Addr) (P : V → Hp → Prop) : Prop := ∀ x H H', P x H → KeepB B H H' → P x H'
def AllG (G : V → Hp → Prop) (n : Nat) : List V → Hp → Prop := fun vs H => (∀ v ∈ vs, G v H) ∧ vs.length = n
def Gd (B : List Addr) : V → Hp → Prop := fun x H => ∃ d, Dq (wo B H) x d
def GE (B : List Addr) : V → Hp → Prop := fun x H => ∃ o, El (wo B H) x o
def Ls (G : V → Hp → Prop) (B : List Addr) (n : Nat) : V → Hp → Prop := fun x H => ∃ p xs, x = .ref p ∧ p ∉ B ∧ H p = some (.lst xs) ∧ AllG G n xs H
section
variable {K : PySem.W.Frag} {b : Addr} {B : List Addr} {σ : L2.St} {H H' : Hp} {ta tb te : TE} {tr : TA} {tt : TT} {x y z v : V} {P P' : V → Hp → Prop} {G : V → Hp → Prop} {n n' m m' N : Nat}
theorem gd_stb : Stb B (Gd B) := fun x H H' ⟨d, h⟩ k => ⟨d, Dq.same (wo_keepB k) _ _ h⟩
theorem ge_stb : Stb B (GE B) := fun x H H' ⟨d, h⟩ k => ⟨d, El.same h (wo_keepB k)⟩
theorem all_stb (h : Stb B G) {vs : List V} (g : AllG G n vs H) (k : KeepB B H H') : AllG G n vs H' := ⟨fun v hv => h v H H' (g.1 v hv) k, g.2⟩
theorem ls_stb (hG : Stb B G) : Stb B (Ls G B n) := fun x H H' ⟨p, xs, e, hp, h, g⟩ k => ⟨p, xs, e, hp, k _ _ hp h, all_stb hG g k⟩
theorem gd_ge (h : Gd B x H) : GE B x H := by obtain ⟨d, h⟩ := h; exact ⟨some d, h⟩
theorem ek_w (h : EK b B m te σ H P) (w : ∀ x H, P x H → P' x H) : EK b B m te σ H P' := fun N H1 l k g Q q => h N H1 l k g Q fun x H2 M lm k2 g2 p => q x H2 M lm k2 g2 (w x H2 p)
theorem ek_ge (h : EK b B m te σ H (Gd B)) : EK b B m te σ H (GE B) := ek_w h fun _ _ => gd_ge
theorem ek_mono (h : EK b B m te σ H P) (k : Keep b H H') : EK b B m te σ H' P := fun N H1 l k1 g Q q => h N H1 l (k.trans k1) g Q q
theorem ek_c (p : ∀ H, P v H) : EK b B 0 (tC v) σ H P := fun N H1 l k g Q q => q v H1 N (Nat.le_refl _) (Keep.refl b H1) g (p H1)
theorem ek_v {i : Nat} (h : σ[i]? = some (some v)) (p : ∀ H1, Keep b H H1 → P v H1) : EK b B 0 (tVar i) σ H P := fun N H1 l k g Q q => ⟨v, h, q v H1 N (Nat.le_refl _) (Keep.refl b H1) g (p H1 k)⟩
theorem gd_non : Gd B .non H := ⟨_, .non⟩
theorem gd_bl (c : Bool) : Gd B (.bl c) H := ⟨_, .bl c⟩
theorem gd_int (i : Int) : Gd B (.int i) H := ⟨_, .int i⟩
theorem gd_str {z : Str} (h : z.length ≤ 1000 ∧ PyData.strOk z = true) : Gd B (.str z) H := ⟨_, .str z h.1 h.2⟩
theorem eka_nil {G : V → Hp → Prop} : EKA b B 0 tNil σ H (AllG G 0) := fun N H1 l k g Q q => q [] H1 N (Nat.le_refl _) (Keep.refl b H1) g ⟨fun v hv => (nomatch hv), rfl⟩
theorem eka_cons (hb : b ∈ B) (hG : Stb B G) (h : EK b B m te σ H G) (hr : EKA b B m' tr σ H (AllG G n)) : EKA b B (m + m') (tCons te tr) σ H (AllG G (n + 1)) := fun N H1 l k g Q q =>
  h N H1 (by omega) k g _ fun x H2 M lm k2 g2 p => hr M H2 (by omega) (k.trans k2) g2 _ fun vs H3 M3 lm3 k3 g3 pr => q (x :: vs) H3 M3 (by omega) (k2.trans k3) g3 ⟨fun v hv => by
    rcases List.mem_cons.mp hv with rfl | hv
    · exact hG _ _ _ p (kb hb k3)
    · exact pr.1 v hv, by rw [List.length_cons, pr.2]⟩
theorem dqAll_of {H : Hp} : ∀ {vs : List V}, (∀ v ∈ vs, ∃ d, Dq H v d) → ∃ ds, DqAll H vs ds
  | [], _ => ⟨[], .nil⟩
  | v :: vs, h => by
    obtain ⟨d, hd⟩ := h v List.mem_cons_self
    obtain ⟨ds, hs⟩ := dqAll_of fun u hu => h u (List.mem_cons_of_mem _ hu)
    exact ⟨d :: ds, .cons hd hs⟩
theorem elAll_of {H : Hp} : ∀ {vs : List V}, (∀ v ∈ vs, ∃ d, El H v d) → ∃ ds, ElAll H vs ds
  | [], _ => ⟨[], .nil⟩
  | v :: vs, h => by
    obtain ⟨d, hd⟩ := h v List.mem_cons_self
    obtain ⟨ds, hs⟩ := elAll_of fun u hu => h u (List.mem_cons_of_mem _ hu)
    exact ⟨d :: ds, .cons hd hs⟩
theorem ek_tup (hb : b ∈ B) (h : EKA b B m tr σ H (AllG (Gd B) n)) (hn : n ≤ 1000) : EK b B m (tTup tr) σ H (Gd B) := fun N H1 l k g Q q =>
  h N H1 l k g _ fun vs H2 M lm k2 g2 p => ⟨Evl.sz_of (by rw [p.2]; omega), fun r hr => by
    obtain ⟨n1, g3, k3⟩ := g2.new (o := .tup vs) hr
    have p3 := all_stb gd_stb p (kb hb k3)
    obtain ⟨ds, hds⟩ := dqAll_of p3.1
    exact q _ _ M lm (k2.trans k3) g3 ⟨.tuple ds, .tup (wo_put n1 upd_same) hds (by rw [p.2]; exact hn)⟩⟩
theorem ek_lstD (hb : b ∈ B) (h : EKA b B m tr σ H (AllG (Gd B) n)) (hn : n ≤ 1000) : EK b B m (tLst tr) σ H (Gd B) := fun N H1 l k g Q q =>
  h N H1 l k g _ fun vs H2 M lm k2 g2 p => ⟨Evl.sz_of (by rw [p.2]; omega), fun r hr => by
    obtain ⟨n1, g3, k3⟩ := g2.new (o := .lst vs) hr
    have p3 := all_stb gd_stb p (kb hb k3)
    obtain ⟨ds, hds⟩ := dqAll_of p3.1
    exact q _ _ M lm (k2.trans k3) g3 ⟨.list ds, .lst (wo_put n1 upd_same) hds (by rw [p.2]; exact hn)⟩⟩
theorem ek_lst (hb : b ∈ B) (hG : Stb B G) (h : EKA b B m tr σ H (AllG G n)) (hn : n ≤ 1000) : EK b B m (tLst tr) σ H (Ls G B n) := fun N H1 l k g Q q =>
  h N H1 l k g _ fun vs H2 M lm k2 g2 p => ⟨Evl.sz_of (by rw [p.2]; omega), fun r hr => by
    obtain ⟨n1, g3, k3⟩ := g2.new (o := .lst vs) hr
    exact q _ _ M lm (k2.trans k3) g3 ⟨r, vs, rfl, n1, upd_same, all_stb hG p (kb hb k3)⟩⟩
theorem ek_dnew : EK b B 0 tDNewK σ H (GE B) := fun N H1 l k g Q q p hp => by
  obtain ⟨n1, g3, k3⟩ := g.new (o := .dK []) hp
  exact q _ _ N (Nat.le_refl _) k3 g3 ⟨none, p, rfl, Or.inr ⟨[], wo_put n1 upd_same⟩⟩
theorem ek_cat (hb : b ∈ B) (hG : Stb B G) (h : EK b B m ta σ H (Ls G B n)) (h' : EK b B m' tb σ H (Ls G B n')) (hn : n + n' ≤ 1000) : EK b B (m + m') (tOp rCat ta tb) σ H (Ls G B (n + n')) := fun N H1 l k g Q q =>
  h N H1 (by omega) k g _ fun x H2 M lm k2 g2 p => h' M H2 (by omega) (k.trans k2) g2 _ fun y H3 M3 lm3 k3 g3 p' => by
    obtain ⟨l1, xs, rfl, n1, hl, gx, lx⟩ := ls_stb hG _ _ _ p (kb hb k3)
    obtain ⟨l2, ys, rfl, n2, hl', gy, ly⟩ := p'
    refine ⟨l1, l2, xs, ys, rfl, rfl, hl, hl', Evl.sz_of (by omega), fun r hr => ?_⟩
    obtain ⟨n3, g4, k4⟩ := g3.new (o := .lst (xs ++ ys)) hr
    refine q _ _ M3 (by omega) ((k2.trans k3).trans k4) g4 ⟨r, xs ++ ys, rfl, n3, upd_same, fun v hv => ?_, by rw [List.length_append, lx, ly]⟩
    rcases List.mem_append.mp hv with hv | hv
    · exact hG _ _ _ (gx v hv) (kb hb k4)
    · exact hG _ _ _ (gy v hv) (kb hb k4)
theorem ek_take {i : Nat} {c : Int} {E : XK} (hi : σ[i]? = some (some (.ref b))) (h1 : 1 ≤ c ∧ c < 1000000) : EK b B 1 (tCall spTakeC [] E (tCons (tVar i) (tCons (tC (.int c)) tNil))) σ H (fun x _ => ∃ r, x = .int r ∧ 0 ≤ r ∧ r < c) := fun N H1 l k g Q q =>
  ⟨_, hi, b, c, N, rfl, g.bag, by omega, h1.1, h1.2, fun H' r k' g' r0 r1 => q _ _ (N + 1) (Nat.le_refl _) k' (g.keep k' g') ⟨r, rfl, r0, r1⟩⟩
theorem ek_pick {i : Nat} {E : XK} (hb : b ∈ B) (hG : Stb B G) (hi : σ[i]? = some (some (.ref b))) (h : EK b B m te σ H (Ls G B n)) (hn : 1 ≤ n ∧ n ≤ 1000) : EK b B (m + 1) (tCall (spPickC K) [] E (tCons (tVar i) (tCons te tNil))) σ H G := fun N H1 l k g Q q =>
  ⟨_, hi, h N H1 (by omega) k g _ fun x H2 M lm k2 g2 p => by
    obtain ⟨l1, xs, rfl, n1, hl, gx, lx⟩ := p
    refine ⟨b, l1, xs, M, rfl, g2.bag, by omega, fun e => n1 (e ▸ hb), SqL.of hl, by omega, by omega, fun H' v k' g' hv => q _ _ (M + 1) (by omega) (k2.trans k') (g2.keep k' g') (hG _ _ _ (gx v hv) (kb hb k'))⟩⟩
theorem ek_neg {i : Int} (p : ∀ H, P (.int (-i)) H) : EK b B 0 (tUn (rU fun i => .int (-i)) (tC (.int i))) σ H P := fun N H1 l k g Q q => ⟨i, rfl, q _ H1 N (Nat.le_refl _) (Keep.refl b H1) g (p H1)⟩
theorem eka_cons0 (hb : b ∈ B) (hG : Stb B G) (h : EK b B 0 te σ H G) (hr : EKA b B 0 tr σ H (AllG G n)) : EKA b B 0 (tCons te tr) σ H (AllG G (n + 1)) := eka_cons hb hG h hr
theorem ek_cat0 (hb : b ∈ B) (hG : Stb B G) (h : EK b B 0 ta σ H (Ls G B n)) (h' : EK b B 0 tb σ H (Ls G B n')) (hn : n + n' ≤ 1000) : EK b B 0 (tOp rCat ta tb) σ H (Ls G B (n + n')) := ek_cat hb hG h h' hn
/-- an item of a list, by a number within -/
theorem ek_ixL (hb : b ∈ B) (hG : Stb B G) (h : EK b B m ta σ H (Ls G B n)) (h' : EK b B m' tb σ H (fun x _ => ∃ r, x = .int r ∧ 0 ≤ r ∧ r < n)) : EK b B (m + m') (tOp (rIxL K) ta tb) σ H G := fun N H1 l k g Q q =>
  h N H1 (by omega) k g _ fun x H2 M lm k2 g2 p => h' M H2 (by omega) (k.trans k2) g2 _ fun y H3 M3 lm3 k3 g3 ⟨r, e, r0, r1⟩ => by
    subst e
    obtain ⟨l1, xs, rfl, n1, hl, gx, lx⟩ := ls_stb hG _ _ _ p (kb hb k3)
    have lt : r.toNat < xs.length := by omega
    have er : r = ((r.toNat : Nat) : Int) := by omega
    have z := atI_nat (xs := xs) (j := r.toNat) (v := xs[r.toNat]) (List.getElem?_eq_getElem lt)
    rw [← er] at z
    exact ⟨l1, xs, r, xs[r.toNat], rfl, rfl, SqL.of hl, z, q _ H3 M3 (by omega) (k2.trans k3) g3 (gx _ (List.getElem_mem lt))⟩
/-- a take compared with a number -/
theorem ekt_take {i : Nat} {c d : Int} {E : XK} (hi : σ[i]? = some (some (.ref b))) (h1 : 1 ≤ c ∧ c < 1000000) : EKT b B 1 (tTest (tOp rEq (tCall spTakeC [] E (tCons (tVar i) (tCons (tC (.int c)) tNil))) (tC (.int d)))) σ H := fun N H1 l k g Q q =>
  ek_take (B := B) (H := H) hi h1 N H1 l k g _ fun x H2 M lm k2 g2 ⟨r, e, _⟩ => by
    subst e
    exact ⟨rfl, _, rfl, q _ H2 M lm k2 g2⟩
variable {D : Ends} {tz : TS}
theorem sk_asg {i : Nat} (g : BgAt b B N H) (hN : N + m ≤ 900000) (h : EK b B m te σ H P) (k : ∀ x H1 M, M ≤ N + m → Keep b H H1 → BgAt b B M H1 → P x H1 → tz D (σ.set i (some x)) H1) : tSeq (tAsg te (gName i)) tz D σ H := h N H hN (Keep.refl b H) g _ k
theorem sk_ret (g : BgAt b B N H) (hN : N + m ≤ 900000) (h : EK b B m te σ H P) (k : ∀ x H1 M, M ≤ N + m → Keep b H H1 → BgAt b B M H1 → P x H1 → D.rt x H1) : tRet te D σ H := h N H hN (Keep.refl b H) g _ k
theorem sk_par {i j : Nat} (g : BgAt b B N H) (hN : N + (m + m') ≤ 900000) (hb : b ∈ B) (hP : Stb B P) (h : EK b B m ta σ H P) (h' : EK b B m' tb σ H P') (k : ∀ x y H1 M, M ≤ N + (m + m') → Keep b H H1 → BgAt b B M H1 → P x H1 → P' y H1 → tz D ((σ.set i (some x)).set j (some y)) H1) :
    tSeq (tPar i j (tCons ta (tCons tb tNil))) tz D σ H :=
  h N H (by omega) (Keep.refl b H) g _ fun x H2 M lm k2 g2 p => h' M H2 (by omega) k2 g2 _ fun y H3 M3 lm3 k3 g3 p' => ⟨x, y, rfl, k x y H3 M3 (by omega) (k2.trans k3) g3 (hP _ _ _ p (kb hb k3)) p'⟩
end
end LF

set_option Elab.async false
set_option linter.all false
set_option maxRecDepth 100000
set_option maxHeartbeats 4000000
namespace LF
open PySem PySem.Spec PyProof.Rows L2
open Evl (Ev EvL EvU EvT EvA EvO Ex sq_of st_of)
section
variable {κ : Type} [DecidableEq κ]
theorem mem_put {kvs : List (κ × V)} {k : κ} {v : V} {e : κ × V} (h : e ∈ putK kvs k v) : e = (k, v) ∨ e ∈ kvs := by
  unfold putK at h
  split at h
  · obtain ⟨a, ha, rfl⟩ := List.mem_map.mp h
    split
    · rename_i c; exact Or.inl (by rw [c])
    · exact Or.inr ha
  · rcases List.mem_append.mp h with h | h
    · exact Or.inr h
    · exact Or.inl (List.mem_singleton.mp h)
theorem len_put {kvs : List (κ × V)} {k : κ} {v : V} : (putK kvs k v).length ≤ kvs.length + 1 := by
  unfold putK
  split
  · rw [List.length_map]; omega
  · rw [List.length_append]; simp
theorem keys_put {kvs : List (κ × V)} {k : κ} {v : V} (h : k ∈ kvs.map (·.1)) : (putK kvs k v).map (·.1) = kvs.map (·.1) := by
  have : (kvs.any fun kv => decide (kv.1 = k)) = true := by
    obtain ⟨a, ha, e⟩ := List.mem_map.mp h
    exact List.any_eq_true.mpr ⟨a, ha, decide_eq_true e⟩
  unfold putK
  rw [if_pos this, List.map_map]
  refine List.map_congr_left fun a _ => ?_
  show (if a.1 = k then (a.1, v) else a).1 = a.1
  split <;> rfl
theorem val_mem {kvs : List (κ × V)} {k : κ} {v : V} (h : valV kvs k = some v) : (k, v) ∈ kvs := by
  unfold valV at h
  obtain ⟨p, hp, e⟩ := Option.map_eq_some_iff.mp h
  have h1 := List.find?_some hp
  have h2 := List.mem_of_find?_eq_some hp
  have h3 : p.1 = k := of_decide_eq_true h1
  rw [← h3, ← e]; exact h2
theorem val_some {kvs : List (κ × V)} {k : κ} (h : k ∈ kvs.map (·.1)) : ∃ v, valV kvs k = some v ∧ (k, v) ∈ kvs := by
  cases hv : valV kvs k with
  | some v => exact ⟨v, rfl, val_mem hv⟩
  | none =>
    obtain ⟨a, ha, e⟩ := List.mem_map.mp h
    unfold valV at hv
    rw [Option.map_eq_none_iff, List.find?_eq_none] at hv
    exact absurd (decide_eq_true e) (hv a ha)
end
theorem merge_cons (acc : List (Key × V)) (p : Key × V) (r : List (Key × V)) : mergeK acc (p :: r) = mergeK (putK acc p.1 p.2) r := rfl
theorem mem_merge : ∀ {kvs acc : List (Key × V)} {e : Key × V}, e ∈ mergeK acc kvs → e ∈ acc ∨ e ∈ kvs
  | [], acc, e, h => Or.inl h
  | p :: r, acc, e, h => by
    rw [merge_cons] at h
    rcases mem_merge h with h | h
    · rcases mem_put h with h | h
      · exact Or.inr (by rw [h]; exact List.mem_cons_self)
      · exact Or.inl h
    · exact Or.inr (List.mem_cons_of_mem _ h)
theorem len_merge : ∀ {kvs acc : List (Key × V)}, (mergeK acc kvs).length ≤ acc.length + kvs.length
  | [], acc => Nat.le_refl _
  | p :: r, acc => by
    rw [merge_cons]
    have h1 := len_merge (kvs := r) (acc := putK acc p.1 p.2)
    have h2 := len_put (kvs := acc) (k := p.1) (v := p.2)
    rw [List.length_cons]; omega
theorem merge_val {G : V → Prop} : ∀ {kvs acc : List (Key × V)} {k : Key}, (∀ kv ∈ kvs, G kv.2) → (k ∈ kvs.map (·.1) ∨ ∃ v, valV acc k = some v ∧ G v) → ∃ v, valV (mergeK acc kvs) k = some v ∧ G v
  | [], acc, k, _, h => h.elim (fun m => by simp at m) id
  | p :: r, acc, k, hg, h => by
    rw [merge_cons]
    refine merge_val (fun kv m => hg kv (List.mem_cons_of_mem _ m)) ?_
    by_cases e : k = p.1
    · exact Or.inr ⟨p.2, by rw [valV_put, if_pos e], hg p List.mem_cons_self⟩
    · rcases h with h | ⟨v, hv, gv⟩
      · rw [List.map_cons] at h
        rcases List.mem_cons.mp h with h | h
        · exact absurd h e
        · exact Or.inl h
      · exact Or.inr ⟨v, by rw [valV_put, if_neg e]; exact hv, gv⟩
/-- a dict with keys of its own: none twice -/
theorem nodup_put {κ : Type} [DecidableEq κ] {kvs : List (κ × V)} {k : κ} {v : V} (h : (kvs.map (·.1)).Nodup) : ((putK kvs k v).map (·.1)).Nodup := by
  by_cases hk : k ∈ kvs.map (·.1)
  · rw [keys_put hk]; exact h
  · have hn : valV kvs k = none := by
      cases hv : valV kvs k with
      | none => rfl
      | some v => exact absurd (List.mem_map.mpr ⟨_, val_mem hv, rfl⟩) hk
    rw [putK_new v hn, List.map_append]
    refine List.nodup_append.mpr ⟨h, by simp, fun a ha b hb => ?_⟩
    rw [List.map_cons, List.map_nil, List.mem_singleton] at hb
    have hb2 : b = k := hb
    intro e; exact hk (by rw [← hb2, ← e]; exact ha)
theorem nodup_merge : ∀ {kvs acc : List (Key × V)}, (acc.map (·.1)).Nodup → ((mergeK acc kvs).map (·.1)).Nodup
  | [], _, h => h
  | p :: r, acc, h => by rw [merge_cons]; exact nodup_merge (nodup_put h)
end LF

set_option Elab.async false
set_option linter.all false
set_option maxRecDepth 100000
set_option maxHeartbeats 4000000
namespace LF
open PySem PySem.Spec PyProof.Rows L2
open Evl (Ev EvL EvU EvT EvA EvO Ex sq_of st_of)
/-- a list, of so many items at most -/
def LsM (G : V → Hp → Prop) (B : List Addr) (n : Nat) : V → Hp → Prop := fun x H => ∃ p xs, x = .ref p ∧ p ∉ B ∧ H p = some (.lst xs) ∧ (∀ v ∈ xs, G v H) ∧ xs.length ≤ n
/-- a list that is not empty -/
def LsN (G : V → Hp → Prop) (B : List Addr) : V → Hp → Prop := fun x H => ∃ p xs, x = .ref p ∧ p ∉ B ∧ H p = some (.lst xs) ∧ (∀ v ∈ xs, G v H) ∧ 1 ≤ xs.length ∧ xs.length ≤ 100
section
variable {K : PySem.W.Frag} {b : Addr} {B : List Addr} {σ : L2.St} {H H' : Hp} {ta tb te : TE} {tr : TA} {tt : TT} {x y z v : V} {P P' : V → Hp → Prop} {G : V → Hp → Prop} {n n' m m' N : Nat}
theorem lsm_stb (hG : Stb B G) : Stb B (LsM G B n) := fun x H H' ⟨p, xs, e, hp, h, g, l⟩ k => ⟨p, xs, e, hp, k _ _ hp h, fun v hv => hG v H H' (g v hv) k, l⟩
theorem ls_lsm (h : Ls G B n x H) : LsM G B n x H := by
  obtain ⟨p, xs, e, hp, h, g, l⟩ := h
  exact ⟨p, xs, e, hp, h, g, by omega⟩
theorem ls_lsn (h : Ls G B n x H) (h1 : 1 ≤ n ∧ n ≤ 100) : LsN G B x H := by
  obtain ⟨p, xs, e, hp, h, g, l⟩ := h
  exact ⟨p, xs, e, hp, h, g, by omega, by omega⟩
theorem lsm_w {G' : V → Hp → Prop} (h : LsM G B n x H) (hn : n ≤ n') (w : ∀ v, G v H → G' v H) : LsM G' B n' x H := by
  obtain ⟨p, xs, e, hp, h, g, l⟩ := h
  exact ⟨p, xs, e, hp, h, fun v hv => w v (g v hv), by omega⟩
theorem ls_w {G' : V → Hp → Prop} (h : Ls G B n x H) (w : ∀ v, G v H → G' v H) : Ls G' B n x H := by
  obtain ⟨p, xs, e, hp, h, g, l⟩ := h
  exact ⟨p, xs, e, hp, h, fun v hv => w v (g v hv), l⟩
theorem mem_cut {xs : List V} {lo hi : Option Int} {v : V} (h : v ∈ cutV xs lo hi) : v ∈ xs := List.mem_of_mem_drop (List.mem_of_mem_take h)
theorem len_cut {xs : List V} {lo hi : Option Int} : (cutV xs lo hi).length ≤ xs.length := by
  unfold cutV
  rw [List.length_take, List.length_drop]; omega
theorem ek_if (ht : EKT b B m tt σ H) (ha : EK b B m' ta σ H P) (hc : EK b B m' tb σ H P) : EK b B (m + m') (tIf tt ta tb) σ H P := fun N H1 l k g Q q =>
  ht N H1 (by omega) k g _ fun c H2 M lm k2 g2 => by
    have q' : ∀ x H3 M3, M3 ≤ M + m' → Keep b H2 H3 → BgAt b B M3 H3 → P x H3 → Q x H3 := fun x H3 M3 l3 k3 g3 p => q x H3 M3 (by omega) (k2.trans k3) g3 p
    cases c with
    | true => exact iteT (ha M H2 (by omega) (k.trans k2) g2 Q q')
    | false => exact iteF (hc M H2 (by omega) (k.trans k2) g2 Q q')
/-- a test that is known -/
theorem ek_ifB {c : Bool} (ht : ∀ N H1, Keep b H H1 → BgAt b B N H1 → ∀ Q : Bool → Hp → Prop, Q c H1 → tt σ H1 Q) (ha : c = true → EK b B m ta σ H P) (hc : c = false → EK b B m tb σ H P) : EK b B m (tIf tt ta tb) σ H P := fun N H1 l k g Q q =>
  ht N H1 k g _ (by
    cases c with
    | true => exact iteT (ha rfl N H1 l k g Q q)
    | false => exact iteF (hc rfl N H1 l k g Q q))
theorem ek_takeM {i : Nat} {E : XK} {c : Int} (hi : σ[i]? = some (some (.ref b))) (h : EK b B m te σ H (fun x _ => x = .int c)) (h1 : 1 ≤ c ∧ c < 1000000) : EK b B (m + 1) (tCall spTakeC [] E (tCons (tVar i) (tCons te tNil))) σ H (fun x _ => ∃ r, x = .int r ∧ 0 ≤ r ∧ r < c) := fun N H1 l k g Q q =>
  ⟨_, hi, h N H1 (by omega) k g _ fun x H2 M lm k2 g2 e => by
    subst e
    exact ⟨b, c, M, rfl, g2.bag, by omega, h1.1, h1.2, fun H' r k' g' r0 r1 => q _ _ (M + 1) (by omega) (k2.trans k') (g2.keep k' g') ⟨r, rfl, r0, r1⟩⟩⟩
theorem ek_pickN {i : Nat} {E : XK} (hb : b ∈ B) (hG : Stb B G) (hi : σ[i]? = some (some (.ref b))) (h : EK b B m te σ H (LsN G B)) : EK b B (m + 1) (tCall (spPickC K) [] E (tCons (tVar i) (tCons te tNil))) σ H G := fun N H1 l k g Q q =>
  ⟨_, hi, h N H1 (by omega) k g _ fun x H2 M lm k2 g2 p => by
    obtain ⟨l1, xs, rfl, n1, hl, gx, lx, lz⟩ := p
    refine ⟨b, l1, xs, M, rfl, g2.bag, by omega, fun e => n1 (e ▸ hb), SqL.of hl, by omega, by omega, fun H' v k' g' hv => q _ _ (M + 1) (by omega) (k2.trans k') (g2.keep k' g') (hG _ _ _ (gx v hv) (kb hb k'))⟩⟩
/-- one of a list that may change later -/
theorem ek_pickL {i j : Nat} {E : XK} {l0 : Addr} {xs : List V} (hi : σ[i]? = some (some (.ref b))) (hj : σ[j]? = some (some (.ref l0))) (hl : H l0 = some (.lst xs)) (nl : l0 ≠ b) (h1 : 1 ≤ xs.length) (h2 : xs.length < 100000) :
    EK b B 1 (tCall (spPickC K) [] E (tCons (tVar i) (tCons (tVar j) tNil))) σ H (fun x _ => x ∈ xs) := fun N H1 l k g Q q =>
  ⟨_, hi, _, hj, b, l0, xs, N, rfl, g.bag, by omega, nl, SqL.of (k _ _ nl hl), h1, by omega, fun H' v k' g' hv => q _ _ (N + 1) (Nat.le_refl _) k' (g.keep k' g') hv⟩
theorem ek_dgetL {i : Nat} {p : Addr} {kvs : List (Key × V)} {key : Str} (hb : b ∈ B) (hP : Stb B P) (hi : σ[i]? = some (some (.ref p))) (hd : H p = some (.dK kvs)) (np : p ≠ b) (hv : valV kvs (.inr key) = some v) (hl : P v H) : EK b B 0 (tDGet (tVar i) (tC (.str key))) σ H P := fun N H1 l k g Q q => by
  have dg := DGet.k (k := .inr key) (k _ _ np hd)
  rw [hv] at dg
  exact ⟨.ref p, hi, p, v, rfl, dg, q v H1 N (Nat.le_refl _) (Keep.refl b H1) g (hP _ _ _ hl (kb hb k))⟩
/-- a comprehension over range, each item drawn -/
theorem ek_lcR {G : List Addr → V → Hp → Prop} {j : Nat} {c : Int} (hr : EK b B m tb σ H (fun x _ => ∃ r, x = .int r ∧ 0 ≤ r ∧ r < c)) (hc : c ≤ 100) (hG : ∀ D, D ∉ B → Stb (B ++ [D]) (G (B ++ [D])))
    (he : ∀ (i : Nat) D H1, D ∉ B → D ≠ b → Keep b H H1 → H D = none → EK b (B ++ [D]) m' te ((wipe σ [j]).set j (some (.int (0 + (i : Int))))) H1 (G (B ++ [D]))) :
    EK b B (m + c.toNat * m') (tLc (iRng1 (tCons tb tNil)) (gName j) tYes te [j]) σ H (fun x H' => ∃ p xs, x = .ref p ∧ p ∉ B ∧ H' p = some (.lst xs) ∧ (∀ v ∈ xs, G (B ++ [p]) v H') ∧ (xs.length : Int) < c) := fun N H1 l k g Q q =>
  hr N H1 (by omega) k g _ fun x H2 M lm k2 g2 ⟨r, e, r0, r1⟩ => by
    subst e
    refine ⟨r, rfl, by omega, by omega, fun D hD => ?_⟩
    obtain ⟨nD, g3, k3⟩ := g2.new (o := .lst []) hD
    have nDb : D ≠ b := fun e => nD (by rw [e]; exact g.inB)
    have hD0 : H D = none := by
      cases hh : H D with
      | none => rfl
      | some o => rw [(k.trans k2) _ _ nDb hh] at hD; cases hD
    have hs : ∀ i : Nat, (i : Int) < r → (i + 1) * m' ≤ c.toNat * m' := fun i hi => Nat.mul_le_mul_right _ (by omega)
    refine lc_range (lo := 0) (fun i H' => ∃ M', M' ≤ M + i * m' ∧ BgAt b (B ++ [D]) M' H' ∧ Keep b H2 H' ∧ ∃ xs, H' D = some (.lst xs) ∧ (∀ v ∈ xs, G (B ++ [D]) v H') ∧ xs.length = i) ?_ ?_ ?_
    · refine ⟨M, by omega, ⟨g3.bag, by simp [g3.inB], fun a ha => ?_⟩, k3, [], upd_same, (fun v hv => nomatch hv), rfl⟩
      rcases List.mem_append.mp ha with ha | ha
      · exact g3.live a ha
      · rw [List.mem_singleton.mp ha]; exact ⟨_, upd_same⟩
    · rintro i H3 hi ⟨M3, l3, g4, k4, xs, hx, gx, lx⟩
      have hi' := hs i (by omega)
      have e1 : (i + 1) * m' = i * m' + m' := Nat.succ_mul _ _
      refine ⟨wipe_set, ?_⟩
      refine he i D H3 nD nDb ((k.trans k2).trans k4) hD0 M3 H3 (by omega) (Keep.refl b H3) g4 _ fun y H4 M4 l4 k5 g5 py => ?_
      have hx4 := k5 _ _ nDb hx
      have kk : KeepB (B ++ [D]) H4 (upd H4 D (.lst (xs ++ [y]))) := fun a o na e => by
        rw [upd_ne (fun z => na (by rw [z]; simp))]; exact e
      refine ⟨xs, hx4, Evl.sz_lt (by omega), M4, by omega, ⟨?_, g5.inB, fun a ha => ?_⟩, keep_upd hD (k4.trans k5), xs ++ [y], upd_same, fun v hv => ?_, by rw [List.length_append, lx]; rfl⟩
      · obtain ⟨d, x, n, e, rr⟩ := g5.bag
        exact ⟨d, x, n, by rw [upd_ne nDb.symm]; exact e, rr⟩
      · obtain ⟨u, hu⟩ := g5.live a ha
        by_cases e : a = D
        · subst e; exact ⟨_, upd_same⟩
        · exact ⟨u, by rw [upd_ne e]; exact hu⟩
      · rcases List.mem_append.mp hv with hv | hv
        · exact hG D nD _ _ _ (hG D nD _ _ _ (gx v hv) (kb g4.inB k5)) kk
        · rw [List.mem_singleton.mp hv]; exact hG D nD _ _ _ py kk
    · rintro H3 ⟨M3, l3, g4, k4, xs, hx, gx, lx⟩
      have := Nat.mul_le_mul_right m' (show r.toNat ≤ c.toNat by omega)
      exact q _ _ M3 (by omega) (k2.trans k4) ⟨g4.bag, g.inB, fun a ha => g4.live a (by simp [ha])⟩ ⟨D, xs, rfl, nD, hx, gx, by omega⟩
/-- a comprehension over a list, each item drawn -/
theorem ek_lcL {G : List Addr → V → Hp → Prop} {Gi : V → Hp → Prop} {j : Nat} (hb : b ∈ B) (hGi : Stb B Gi) (hr : EK b B m tb σ H (LsM Gi B n)) (hc : n ≤ 100) (hG : ∀ D, D ∉ B → Stb (B ++ [D]) (G (B ++ [D])))
    (he : ∀ (x : V) D H1, D ∉ B → D ≠ b → Keep b H H1 → H D = none → Gi x H1 → EK b (B ++ [D]) m' te ((wipe σ [j]).set j (some x)) H1 (G (B ++ [D]))) (hGi2 : ∀ x H H' D, Gi x H → D ∉ B → KeepB (B ++ [D]) H H' → Gi x H') :
    EK b B (m + n * m') (tLc (iList K tb) (gName j) tYes te [j]) σ H (fun x H' => ∃ p xs, x = .ref p ∧ p ∉ B ∧ H' p = some (.lst xs) ∧ (∀ v ∈ xs, G (B ++ [p]) v H') ∧ xs.length ≤ n) := fun N H1 l k g Q q =>
  hr N H1 (by omega) k g _ fun x H2 M lm k2 g2 ⟨l0, ys, e, nl, hl, gi, ly⟩ => by
    subst e
    refine ⟨l0, rfl, ⟨ys, SqL.of hl⟩, fun D hD => ?_⟩
    obtain ⟨nD, g3, k3⟩ := g2.new (o := .lst []) hD
    have nDb : D ≠ b := fun e => nD (by rw [e]; exact g.inB)
    have nlb : l0 ≠ b := fun e => nl (by rw [e]; exact hb)
    have nlD : l0 ≠ D := fun e => by rw [e, hD] at hl; cases hl
    have hD0 : H D = none := by
      cases hh : H D with
      | none => rfl
      | some o => rw [(k.trans k2) _ _ nDb hh] at hD; cases hD
    have hs : ∀ i : Nat, i < ys.length → (i + 1) * m' ≤ n * m' := fun i hi => Nat.mul_le_mul_right _ (by omega)
    have kb1 : ∀ {H3}, Keep b H2 H3 → KeepB (B ++ [D]) H2 H3 := fun k4 a o na e => k4 a o (fun z => na (by rw [z]; simp [hb])) e
    refine lc_it (walk_list (xs := ys)) (fun i H' => ∃ M', M' ≤ M + i * m' ∧ BgAt b (B ++ [D]) M' H' ∧ Keep b H2 H' ∧ ∃ xs, H' D = some (.lst xs) ∧ (∀ v ∈ xs, G (B ++ [D]) v H') ∧ xs.length = i) ?_ (fun i H' _ ⟨_, _, _, k4, _⟩ => SqL.of (k4 _ _ nlb hl)) ?_ ?_
    · refine ⟨M, by omega, ⟨g3.bag, by simp [g3.inB], fun a ha => ?_⟩, k3, [], upd_same, (fun v hv => nomatch hv), rfl⟩
      rcases List.mem_append.mp ha with ha | ha
      · exact g3.live a ha
      · rw [List.mem_singleton.mp ha]; exact ⟨_, upd_same⟩
    · rintro i x H3' H3 hi ⟨M3, l3, g4, k4, xs, hx, gx, lx⟩ ⟨rfl, hxi⟩
      have hi' := hs i hi
      have e1 : (i + 1) * m' = i * m' + m' := Nat.succ_mul _ _
      have gx3 : Gi x H3 := hGi2 _ _ _ D (gi x (List.mem_of_getElem? hxi)) nD (kb1 k4)
      refine ⟨wipe_set, ?_⟩
      refine he x D H3 nD nDb ((k.trans k2).trans k4) hD0 gx3 M3 H3 (by omega) (Keep.refl b H3) g4 _ fun y H4 M4 l4 k5 g5 py => ?_
      have hx4 := k5 _ _ nDb hx
      have kk : KeepB (B ++ [D]) H4 (upd H4 D (.lst (xs ++ [y]))) := fun a o na e => by
        rw [upd_ne (fun z => na (by rw [z]; simp))]; exact e
      refine ⟨xs, hx4, Evl.sz_lt (by omega), M4, by omega, ⟨?_, g5.inB, fun a ha => ?_⟩, keep_upd hD (k4.trans k5), xs ++ [y], upd_same, fun v hv => ?_, by rw [List.length_append, lx]; rfl⟩
      · obtain ⟨d, x, n, e, rr⟩ := g5.bag
        exact ⟨d, x, n, by rw [upd_ne nDb.symm]; exact e, rr⟩
      · obtain ⟨u, hu⟩ := g5.live a ha
        by_cases e : a = D
        · subst e; exact ⟨_, upd_same⟩
        · exact ⟨u, by rw [upd_ne e]; exact hu⟩
      · rcases List.mem_append.mp hv with hv | hv
        · exact hG D nD _ _ _ (hG D nD _ _ _ (gx v hv) (kb g4.inB k5)) kk
        · rw [List.mem_singleton.mp hv]; exact hG D nD _ _ _ py kk
    · rintro H3 ⟨M3, l3, g4, k4, xs, hx, gx, lx⟩
      have := Nat.mul_le_mul_right m' (show ys.length ≤ n by omega)
      exact q _ _ M3 (by omega) (k2.trans k4) ⟨g4.bag, g.inB, fun a ha => g4.live a (by simp [ha])⟩ ⟨D, xs, rfl, nD, hx, gx, by omega⟩
variable {D : Ends} {tz tu tw : TS}
theorem sk_if (g : BgAt b B N H) (hN : N + m ≤ 900000) (h : EKT b B m tt σ H) (kt : ∀ H2 M, M ≤ N + m → Keep b H H2 → BgAt b B M H2 → tu D σ H2) (kf : ∀ H2 M, M ≤ N + m → Keep b H H2 → BgAt b B M H2 → tw D σ H2) : tIfS tt tu tw D σ H := h N H hN (Keep.refl b H) g _ fun c H2 M lm k2 g2 => by
  cases c with
  | true => exact iteT (kt H2 M lm k2 g2)
  | false => exact iteF (kf H2 M lm k2 g2)
theorem sk_asg1 {i : Nat} (g : BgAt b B N H) (hN : N + m ≤ 900000) (h : EK b B m te σ H P) (k : ∀ x H1 M, M ≤ N + m → Keep b H H1 → BgAt b B M H1 → P x H1 → D.nx (σ.set i (some x)) H1) : tAsg te (gName i) D σ H := h N H hN (Keep.refl b H) g _ k
theorem sk_rng {c : Int} {R : It → Hp → Prop} (g : BgAt b B N H) (hN : N + m ≤ 900000) (hc : c ≤ 100000) (h : EK b B m te σ H (fun x _ => ∃ r, x = .int r ∧ 0 ≤ r ∧ r < c)) (k : ∀ r H2 M, M ≤ N + m → Keep b H H2 → BgAt b B M H2 → 0 ≤ r → r < c → R (Itr 0 r.toNat) H2) :
    iRng1 (tCons te tNil) σ H R := h N H hN (Keep.refl b H) g _ fun x H2 M lm k2 g2 ⟨r, e, r0, r1⟩ => by
  subst e
  exact ⟨r, rfl, by omega, by omega, k r H2 M lm k2 g2 r0 r1⟩
/-- d[y] = e, d among what may change -/
theorem sk_dput1 {i j : Nat} {p : Addr} {key : Key} {kvs : List (Key × V)} (g : BgAt b B N H) (hN : N + m ≤ 900000) (hp : p ∈ B) (np : p ≠ b) (hi : σ[i]? = some (some (.ref p))) (hj : σ[j]? = some (some (kV key))) (hd : H p = some (.dK kvs)) (hl : kvs.length < 1000)
    (hP : Stb B P) (h : EK b B m te σ H P) (k : ∀ v H2 M, M ≤ N + m → BgAt b B M H2 → KeepB B H H2 → (∀ a o, a ≠ b → a ≠ p → H a = some o → H2 a = some o) → H2 p = some (.dK (putK kvs key v)) → P v H2 → D.nx σ H2) :
    sDPut (tVar i) (tVar j) te D σ H :=
  h N H hN (Keep.refl b H) g _ fun v H1 M lm k1 g1 pv => ⟨_, hi, _, hj, p, _, rfl, DPut.k (k := key) (k1 _ _ np hd) (Nat.lt_of_lt_of_le hl (by decide)), by
    have kk : KeepB B H1 (upd H1 p (.dK (putK kvs key v))) := fun a u n e => by
      rw [upd_ne (fun z => n (by rw [z]; exact hp))]; exact e
    refine k v _ M lm ⟨?_, g1.inB, fun a ha => ?_⟩ ((kb g1.inB k1).trans kk) (fun a o n1 n2 e => by rw [upd_ne n2]; exact k1 a o n1 e) upd_same (hP _ _ _ pv kk)
    · obtain ⟨d, x, n, e, r⟩ := g1.bag
      exact ⟨d, x, n, by rw [upd_ne np.symm]; exact e, r⟩
    · by_cases e : a = p
      · subst e; exact ⟨_, upd_same⟩
      · obtain ⟨u, hu⟩ := g1.live a ha
        exact ⟨u, by rw [upd_ne e]; exact hu⟩⟩
/-- xs.append(e), xs among what may change -/
theorem sk_appB {i : Nat} {l : Addr} {xs : List V} (g : BgAt b B N H) (hN : N + m ≤ 900000) (hp : l ∈ B) (np : l ≠ b) (hi : σ[i]? = some (some (.ref l))) (hd : H l = some (.lst xs)) (hl : xs.length < 1000)
    (hP : Stb B P) (h : EK b B m te σ H P) (k : ∀ v H2 M, M ≤ N + m → BgAt b B M H2 → KeepB B H H2 → (∀ a o, a ≠ b → a ≠ l → H a = some o → H2 a = some o) → H2 l = some (.lst (xs ++ [v])) → P v H2 → D.nx σ H2) :
    tDrop (tBM K "list" rAppend (tVar i) (tCons te tNil)) D σ H :=
  ⟨_, hi, Or.inl ⟨rfl, _, SqL.of hd⟩, h N H hN (Keep.refl b H) g _ fun v H1 M lm k1 g1 pv => ⟨l, xs, v, rfl, rfl, k1 _ _ np hd, Evl.sz_lt (by omega), by
    have kk : KeepB B H1 (upd H1 l (.lst (xs ++ [v]))) := fun a u n e => by
      rw [upd_ne (fun z => n (by rw [z]; exact hp))]; exact e
    refine k v _ M lm ⟨?_, g1.inB, fun a ha => ?_⟩ ((kb g1.inB k1).trans kk) (fun a o n1 n2 e => by rw [upd_ne n2]; exact k1 a o n1 e) upd_same (hP _ _ _ pv kk)
    · obtain ⟨d, x, n, e, r⟩ := g1.bag
      exact ⟨d, x, n, by rw [upd_ne np.symm]; exact e, r⟩
    · by_cases e : a = l
      · subst e; exact ⟨_, upd_same⟩
      · obtain ⟨u, hu⟩ := g1.live a ha
        exact ⟨u, by rw [upd_ne e]; exact hu⟩⟩⟩
end
end LF

set_option Elab.async false
set_option linter.all false
set_option maxRecDepth 100000
set_option maxHeartbeats 4000000
namespace LF
open PySem PySem.Spec PyProof.Rows L2
open Evl (Ev EvL EvU EvT EvA EvO Ex sq_of st_of)
section
variable {K : PySem.W.Frag} {b : Addr} {B : List Addr} {σ : L2.St} {H H' : Hp} {ta tb te : TE} {tr : TA} {tt : TT} {x y z v : V} {P P' : V → Hp → Prop} {G : V → Hp → Prop} {n n' m m' N : Nat}
/-- a part, drawn or not -/
def EKO (b : Addr) (B : List Addr) (m : Nat) (to : TO) (σ : L2.St) (H : Hp) (R : Option Int → Prop) : Prop := ∀ N H1, N + m ≤ 900000 → Keep b H H1 → BgAt b B N H1 → ∀ Q : Option Int → Hp → Prop, (∀ x H2 M, M ≤ N + m → Keep b H1 H2 → BgAt b B M H2 → R x → Q x H2) → to σ H1 Q
theorem eko_none {R : Option Int → Prop} (h : R none) : EKO b B 0 tNoPart σ H R := fun N H1 l k g Q q => q none H1 N (Nat.le_refl _) (Keep.refl b H1) g h
theorem eko_some {R : Option Int → Prop} (h : EK b B m te σ H (fun x _ => ∃ i, x = .int i ∧ R (some i))) : EKO b B m (tPart te) σ H R := fun N H1 l k g Q q => h N H1 l k g _ fun x H2 M lm k2 g2 ⟨i, e, r⟩ => ⟨i, e, q _ H2 M lm k2 g2 r⟩
/-- xs[..] : which part is told by R1, R2 -/
theorem ek_slR {tl th : TO} {R1 R2 : Option Int → Prop} {P : V → Hp → Prop} (hb : b ∈ B) (hG : Stb B G) (h : EK b B 0 te σ H (LsM G B n)) (h1 : EKO b B m tl σ H R1) (h2 : EKO b B m' th σ H R2)
    (hP : ∀ r xs lo hi H, R1 lo → R2 hi → r ∉ B → H r = some (.lst (cutV xs lo hi)) → (∀ v ∈ xs, G v H) → xs.length ≤ n → P (.ref r) H) : EK b B (m + m') (tSl (rSlL K) te tl th) σ H P := fun N H1 l k g Q q =>
  h N H1 (by omega) k g _ fun x H2 M lm k2 g2 p => h1 M H2 (by omega) (k.trans k2) g2 _ fun lo H3 M3 l3 k3 g3 r1 => h2 M3 H3 (by omega) ((k.trans k2).trans k3) g3 _ fun hi H4 M4 l4 k4 g4 r2 => by
    obtain ⟨a, xs, rfl, na, ha, gx, lx⟩ := lsm_stb hG _ _ _ p ((kb hb k3).trans (kb hb k4))
    refine ⟨a, xs, rfl, SqL.of ha, fun r hr => ?_⟩
    obtain ⟨n1, g5, k5⟩ := g4.new (o := .lst (cutV xs lo hi)) hr
    exact q _ _ M4 (by omega) (((k2.trans k3).trans k4).trans k5) g5 (hP r xs lo hi _ r1 r2 n1 upd_same (fun v hv => hG _ _ _ (gx v hv) (kb hb k5)) lx)
theorem ek_slM {tl th : TO} (hb : b ∈ B) (hG : Stb B G) (h : EK b B 0 te σ H (LsM G B n)) (h1 : EKO b B m tl σ H fun _ => True) (h2 : EKO b B m' th σ H fun _ => True) : EK b B (m + m') (tSl (rSlL K) te tl th) σ H (LsM G B n) :=
  ek_slR hb hG h h1 h2 fun r xs lo hi H _ _ nr hr gx lx => ⟨r, _, rfl, nr, hr, fun v hv => gx v (mem_cut hv), Nat.le_trans len_cut lx⟩
theorem ek_catM (hb : b ∈ B) (hG : Stb B G) (h : EK b B m ta σ H (LsM G B n)) (h' : EK b B m' tb σ H (LsM G B n')) (hn : n + n' ≤ 1000) : EK b B (m + m') (tOp rCat ta tb) σ H (LsM G B (n + n')) := fun N H1 l k g Q q =>
  h N H1 (by omega) k g _ fun x H2 M lm k2 g2 p => h' M H2 (by omega) (k.trans k2) g2 _ fun y H3 M3 lm3 k3 g3 p' => by
    obtain ⟨l1, xs, rfl, n1, hl, gx, lx⟩ := lsm_stb hG _ _ _ p (kb hb k3)
    obtain ⟨l2, ys, rfl, n2, hl', gy, ly⟩ := p'
    refine ⟨l1, l2, xs, ys, rfl, rfl, hl, hl', Evl.sz_of (by omega), fun r hr => ?_⟩
    obtain ⟨n3, g4, k4⟩ := g3.new (o := .lst (xs ++ ys)) hr
    refine q _ _ M3 (by omega) ((k2.trans k3).trans k4) g4 ⟨r, xs ++ ys, rfl, n3, upd_same, fun v hv => ?_, by rw [List.length_append]; omega⟩
    rcases List.mem_append.mp hv with hv | hv
    · exact hG _ _ _ (gx v hv) (kb hb k4)
    · exact hG _ _ _ (gy v hv) (kb hb k4)
/-- a built-in of one argument -/
theorem ek_cb1 {r : List V → Hp → VK → Prop} (h : EK b B m te σ H P) (hr : ∀ x H1 N, BgAt b B N H1 → Keep b H H1 → P x H1 → ∀ Q : VK, (∀ y H2, Keep b H1 H2 → BgAt b B N H2 → P' y H2 → Q y H2) → r [x] H1 Q) : EK b B m (tCB r (tCons te tNil)) σ H P' := fun N H1 l k g Q q =>
  h N H1 l k g _ fun x H2 M lm k2 g2 p => hr x H2 M g2 (k.trans k2) p Q fun y H3 k3 g3 p3 => q y H3 M lm (k2.trans k3) g3 p3
/-- a reading that gives a bool, whichever -/
def EvB (te : TE) (σ : L2.St) (H : Hp) : Prop := ∀ H1, Ex H H1 → ∀ Q : VK, (∀ c H2, Ex H1 H2 → Q (.bl c) H2) → te σ H1 Q
theorem EvB.of {c : Bool} (h : Ev te σ H (.bl c)) : EvB te σ H := fun H1 e Q q => h H1 e Q fun H2 e2 => q c H2 e2
theorem evb_and (h1 : EvB ta σ H) (h2 : EvB tb σ H) : EvB (tAndV ta tb) σ H := fun H1 e Q q => h1 H1 e _ fun c H2 e2 => ⟨c, rfl, by
  cases c with
  | true => exact iteT (h2 H2 (e.trans e2) Q fun c H3 e3 => q c H3 (e2.trans e3))
  | false => exact iteF (q false H2 e2)⟩
theorem evb_not (h1 : EvB ta σ H) : EvB (tNotV ta) σ H := fun H1 e Q q => h1 H1 e _ fun c H2 e2 => ⟨c, rfl, q _ H2 e2⟩
end
/-- from pairs in the heap to the pairs themselves -/
theorem pairs_of {Gp : Addr → Key → V → Prop} : ∀ {xs : List V}, (∀ v ∈ xs, ∃ q k u, v = .ref q ∧ Gp q k u) → ∃ L : List (Addr × (Key × V)), xs = (L.map (·.1)).map V.ref ∧ ∀ e ∈ L, Gp e.1 e.2.1 e.2.2
  | [], _ => ⟨[], rfl, fun _ h => nomatch h⟩
  | v :: xs, h => by
    obtain ⟨q, k, u, e, g⟩ := h v List.mem_cons_self
    obtain ⟨L, e2, g2⟩ := pairs_of fun u hu => h u (List.mem_cons_of_mem _ hu)
    exact ⟨(q, (k, u)) :: L, by rw [e, e2]; rfl, fun e he => by
      rcases List.mem_cons.mp he with rfl | he
      · exact g
      · exact g2 e he⟩
theorem paired_of' {α β : Type} {F : α → β → Prop} : ∀ L : List (α × β), (∀ e ∈ L, F e.1 e.2) → Paired F (L.map (·.1)) (L.map (·.2))
  | [], _ => .nil
  | e :: L, h => .cons (h e List.mem_cons_self) (paired_of' L fun x hx => h x (List.mem_cons_of_mem _ hx))
end LF

set_option Elab.async false
set_option linter.all false
set_option maxRecDepth 100000
set_option maxHeartbeats 4000000
namespace LF
open PySem PySem.Spec PyProof.Rows L2
open Evl (Ev EvL EvU EvT EvA EvO Ex sq_of st_of)
/-! walks over dicts, under a lock -/
theorem ex_lock {H H1 : Hp} {d : Addr} {u : HO} (e : Ex H H1) : Ex (upd H d u) (upd H1 d u) := fun a o h => by
  by_cases n : a = d
  · subst n; rw [upd_same] at h ⊢; exact h
  · rw [upd_ne n] at h ⊢; exact e a o h
theorem ex_unlock {H H' : Hp} {d : Addr} {u : HO} {o : Obj} (h : H d = some u) (s : Ex (upd H d (.frz o u)) H') : Ex H (upd H' d u) := fun a x e => by
  by_cases hb : a = d
  · subst hb; rw [upd_same, ← e, h]
  · rw [upd_ne hb]; exact s a x (by rw [upd_ne hb]; exact e)
theorem dc_it {J : It} {n : Nat} {G : Hp → Prop} {Y : Nat → Hp → V → Hp → Prop} (wk : Walk J n G Y) {g : TG} {tt : TT} {tk tv : TE} {vs : List Nat} {σ : L2.St} {Ha : Hp} {D : Addr} {Qd : Hp → Prop} (Pv : Nat → Hp → Prop) (start : Pv 0 (upd Ha D (.dK [])))
    (ok : ∀ i Hb, i ≤ n → Pv i Hb → G Hb)
    (turn : ∀ i x Hb Hc, i < n → Pv i Hb → Y i Hb x Hc → g x (wipe σ vs) Hc fun σ2 H2 => wipe σ2 vs = wipe σ vs ∧ tt σ2 H2 fun b H3 =>
      if b = true then tk σ2 H3 fun y H4 => tv σ2 H4 fun z H5 => ∃ kvs k, y = kV k ∧ H5 D = some (.dK kvs) ∧ kvs.length < sizeLine ∧ Pv (i + 1) (upd H5 D (.dK (putK kvs k z))) else Pv (i + 1) H3)
    (fin : ∀ Hb, Pv n Hb → Qd Hb) :
    ∃ W : Nat → Nat → Hp → Prop, (∃ m, W 0 m (upd Ha D (.dK []))) ∧ ∀ i m Hb, W i m Hb →
      (J.stop i Hb ∧ Qd Hb) ∨ (J.go i Hb ∧ ∃ Nx : Hp → Prop, (∀ Hc, Nx Hc → ∃ m', m' < m ∧ W (i + 1) m' Hc) ∧ ∀ x Hc, J.yld i Hb x Hc → g x (wipe σ vs) Hc fun σ2 H2 => wipe σ2 vs = wipe σ vs ∧ tt σ2 H2 fun b H3 =>
        if b = true then tk σ2 H3 fun y H4 => tv σ2 H4 fun z H5 => ∃ kvs k, y = kV k ∧ H5 D = some (.dK kvs) ∧ kvs.length < sizeLine ∧ Nx (upd H5 D (.dK (putK kvs k z))) else Nx H3) := by
  refine ⟨fun i m Hb => m + i = n ∧ Pv i Hb, ⟨n, Nat.add_zero n, start⟩, fun i m Hb hw => ?_⟩
  obtain ⟨hm, hp⟩ := hw
  have hi : i ≤ n := by omega
  rcases Nat.lt_or_ge i n with hlt | hge
  · exact Or.inr ⟨wk.goes i Hb hlt (ok i Hb hi hp), Pv (i + 1), fun Hc hc => ⟨n - (i + 1), by omega, by omega, hc⟩, fun x Hc y => turn i x Hb Hc hlt hp (wk.yields i Hb x Hc hlt (ok i Hb hi hp) y)⟩
  · obtain rfl : i = n := by omega
    exact Or.inl ⟨wk.stops Hb (ok i Hb hi hp), fin Hb hp⟩
section
variable {K : PySem.W.Frag} {σ : L2.St} {H : Hp} {te tk tv : TE} {tt : TT} {d : Addr} {kvs : List (Key × V)} {i j w : Nat} {D : Ends} {tz : TS}
/-- all([.. for k in d]) -/
theorem ev_lockAll (td : TE) (htd : Ev td σ H (.ref d)) (htd2 : ∀ od H1, Ex (upd H d (.frz od (.dK kvs))) H1 → Ev td σ H1 (.ref d)) (hd : H d = some (.dK kvs)) (hz : kvs.length ≤ 1000) (g : Key → Bool)
    (he : ∀ k ∈ kvs.map (·.1), ∀ od H1, Ex (upd H d (.frz od (.dK kvs))) H1 → Ev te ((wipe σ [j]).set j (some (kV k))) H1 (.bl (g k))) :
    Ev (tCB (rAll K) (tCons (tLockE (tLc (iKeys td) (gName j) tYes te [j])) tNil)) σ H (.bl ((kvs.map (·.1)).all g)) := fun H1 e Q q => by
  refine ⟨d, .dK kvs, e _ _ hd, trivial, fun od => ?_⟩
  unfold tLc iKeys
  refine htd2 od _ (ex_lock e) _ (Ex.refl _) _ fun H2 e2 => ?_
  have h2 : H2 d = some (.frz od (.dK kvs)) := e2 _ _ upd_same
  refine ⟨d, od, rfl, Or.inl ⟨kvs, h2, fun Dl hD => ?_⟩⟩
  have nd : Dl ≠ d := fun x => by rw [x, h2] at hD; cases hD
  refine lc_it walk_keys (fun n H' => Ex H2 H' ∧ H' Dl = some (.lst (((kvs.map (·.1)).take n).map fun k => V.bl (g k)))) ⟨Ex.new hD, by rw [upd_same]; rfl⟩ (fun n H' _ h => h.1 _ _ h2) ?_ ?_
  · rintro n x H3' H3 hn ⟨e3, hl⟩ ⟨rfl, k, v, hk, rfl⟩
    refine ⟨wipe_set, ?_⟩
    have hk' : (kvs.map (·.1))[n]? = some k := by rw [List.getElem?_map, hk]; rfl
    refine he k (List.mem_of_getElem? hk') od H3 ((ex_lock e).trans (e2.trans e3)) H3 (Ex.refl H3) _ fun H4 e4 => ?_
    refine ⟨_, e4 _ _ hl, Evl.sz_lt (by rw [List.length_map, List.length_take]; omega), Ex.mut (e3.trans e4) hD, ?_⟩
    rw [upd_same, List.take_add_one, hk', List.map_append]; rfl
  · rintro H3 ⟨e3, hl⟩
    rw [List.take_of_length_le (by rw [List.length_map]; exact Nat.le_refl _)] at hl
    refine ⟨e3 _ _ h2, Dl, (kvs.map (·.1)).map g, rfl, SqL.of (by rw [upd_ne nd, hl]; simp [Function.comp_def]), ?_⟩
    have : ((kvs.map (·.1)).map g).all id = (kvs.map (·.1)).all g := by rw [List.all_map]; rfl
    rw [this]
    exact q _ (ex_unlock (e _ _ hd) (e2.trans e3))
/-- w = [k for k in d if ..], none so -/
theorem sq_lockNone (hi : σ[i]? = some (some (.ref d))) (hd : H d = some (.dK kvs)) (ht : ∀ k ∈ kvs.map (·.1), ∀ od H1, Ex (upd H d (.frz od (.dK kvs))) H1 → EvT tt ((wipe σ [j]).set j (some (kV k))) H1 false)
    (k : ∀ p H1, Ex H H1 → H1 p = some (.lst []) → tz D (σ.set w (some (.ref p))) H1) : tSeq (tLock (tAsg (tLc (iKeys (tVar i)) (gName j) tt te [j]) (gName w))) tz D σ H := by
  refine ⟨d, .dK kvs, hd, trivial, fun od => ?_⟩
  refine ⟨_, hi, d, od, rfl, Or.inl ⟨kvs, upd_same, fun Dl hD => ?_⟩⟩
  have nd : Dl ≠ d := fun x => by rw [x, upd_same] at hD; cases hD
  refine lc_it walk_keys (fun n H' => Ex (upd H d (.frz od (.dK kvs))) H' ∧ H' Dl = some (.lst [])) ⟨Ex.new hD, upd_same⟩ (fun n H' _ h => h.1 _ _ upd_same) ?_ ?_
  · rintro n x H3' H3 hn ⟨e3, hl⟩ ⟨rfl, kk, v, hk, rfl⟩
    refine ⟨wipe_set, ?_⟩
    have hk' : (kvs.map (·.1))[n]? = some kk := by rw [List.getElem?_map, hk]; rfl
    exact ht kk (List.mem_of_getElem? hk') od H3 e3 H3 (Ex.refl H3) _ fun H4 e4 => iteF ⟨e3.trans e4, e4 _ _ hl⟩
  · rintro H3 ⟨e3, hl⟩
    exact ⟨e3 _ _ upd_same, k Dl _ (ex_unlock hd e3) (by rw [upd_ne nd]; exact hl)⟩
end
end LF

set_option Elab.async false
set_option linter.all false
set_option maxRecDepth 100000
set_option maxHeartbeats 4000000
namespace KF
open PySem PySem.Spec PyProof.Rows L2 LF
abbrev s_with_parents : Stmt := topS 47
abbrev N_with_parents : List Str := ["entries", "full", "path", "place"]
theorem sc_with_parents : FnScope ["entries", "full", "path", "place"] ["entries"] (defScope s_with_parents) := ⟨rfl, rfl, rfl, by decide +kernel, rfl, by decide +kernel, by decide +kernel⟩
def spWP : Sp := fun vs H Q _ => ∃ (d : Addr) (es : List (Str × V)), vs = [.ref d] ∧ H d = some (.dK (kv es)) ∧ OkU es ∧ (fullU es).length ≤ 1000000 ∧ ∀ H' p, Same H H' → H p = none → H' p = some (.dK (kv (pkE es))) → Q (.ref p) H'
theorem addB_app (a : List (Str × V)) (x y : List Str) : addB a (x ++ y) = addB (addB a x) y := List.foldl_append
theorem fullN_app (a : List (Str × V)) (x y : List (Str × V)) : fullN a (x ++ y) = fullN (fullN a x) y := List.foldl_append
theorem addB_ge : ∀ (bs : List Str) (a : List (Str × V)), a.length ≤ (addB a bs).length
  | [], _ => Nat.le_refl _
  | s :: bs, a => by
    refine Nat.le_trans ?_ (addB_ge bs (if s ∈ a.map (·.1) then a else a ++ [(s, .non)]))
    split
    · exact Nat.le_refl _
    · rw [List.length_append]; exact Nat.le_add_right _ _
theorem fullN_ge : ∀ (ps a : List (Str × V)), a.length ≤ (fullN a ps).length
  | [], _ => Nat.le_refl _
  | q :: ps, a => Nat.le_trans (addB_ge (begs q.1) a) (fullN_ge ps _)
theorem key_val {es : List (Str × V)} {p : Str} (h : p ∈ es.map (·.1)) : ∃ v, valV (kv es) (.inr p) = some v := by
  cases hv : valV (kv es) (.inr p) with
  | some v => exact ⟨v, rfl⟩
  | none =>
    unfold valV kv at hv
    rw [Option.map_eq_none_iff, List.find?_eq_none] at hv
    obtain ⟨e, he, rfl⟩ := List.mem_map.mp h
    have := hv _ (List.mem_map.mpr ⟨e, he, rfl⟩)
    rw [decide_eq_true_eq] at this
    exact absurd rfl this
theorem put_next {es : List (Str × V)} {i : Nat} {p : Str} {v : V} (nd : (es.map (·.1)).Nodup) (h : es[i]? = some (p, v)) : putK (kv (es.take i)) (.inr p) v = kv (es.take (i + 1)) := by
  have hno : p ∉ (es.take i).map (·.1) := by
    intro hm
    obtain ⟨q, hq, hqp⟩ := List.mem_map.mp hm
    obtain ⟨j, hj, hjq⟩ := List.mem_iff_getElem.mp hq
    rw [List.length_take] at hj
    have hji : j < i := by omega
    have hil := (List.getElem?_eq_some_iff.mp h).1
    have hjl : j < es.length := by omega
    rw [List.getElem_take] at hjq
    have h1 : (es.map (·.1))[j]'(by rw [List.length_map]; exact hjl) = p := by rw [List.getElem_map, hjq, hqp]
    have h2 : (es.map (·.1))[i]'(by rw [List.length_map]; exact hil) = p := by rw [List.getElem_map, (List.getElem?_eq_some_iff.mp h).2]
    exact List.pairwise_iff_getElem.mp nd j i (by rw [List.length_map]; exact hjl) (by rw [List.length_map]; exact hil) hji (h1.trans h2.symm)
  rw [putK_new _ (val_no hno), List.take_add_one, h]
  unfold kv
  rw [List.map_append]; rfl
section
variable {P : Program} {w : World} {K : PySem.W.Frag} {mg : Str → Option Value} {base : Heap} {tk1 tk2 : Tok}
theorem ok_with_parents {f f1 f2 : Addr} {fd fd1 fd2 : FuncData} (F : Fun K "with_parents" "with_parents" s_with_parents f fd) (T : Txt K mg tk1 tk2) (d_in_order : DefAt P w K mg base "in_order" 5 f1 fd1 ["paths"] (spOrder K))
    (d_beg : DefAt P w K mg base "beginnings" 2 f2 fd2 ["path"] spBeg) : FnOk P w K mg base CX0 6 f fd ["entries"] spWP := by
  refine F.ok sc_with_parents (fun vs H Q E h => ?_) (fun cdv A outer s H vs Q E hr h => ?_)
  · obtain ⟨d, es, rfl, _⟩ := h
    rfl
  have hu1 := hu_of hr
  refine ⟨_, (pss_cons (ps_set (i := 1) sc_with_parents.nd rfl (Or.inr rfl) (pe_callTy call_dictD (by rfl) T.n_dict (by decide +kernel) (pa_cons (pv 0) pa_nil)))
    (pss_cons (ps_lock (ps_for PassesOwn.never rfl (pi_keys (pv 0)) (pg_name (i := 2) sc_with_parents.nd rfl (Or.inl rfl)) (pss_one (ps_for PassesOwn.never rfl (pi_list (pe_callD d_beg (hr.mono (by decide)) (pa_cons (pv 2) pa_nil))) (pg_name (i := 3) sc_with_parents.nd rfl (Or.inl rfl)) (pss_one (ps_expr (pe_dsetd (pv 1) (pv 3) pe_non ⟨rfl, rfl, rfl, rfl⟩)))))))
    (pss_one (ps_ret (pe_dc (own := [("path", 2)]) rfl sc_with_parents.nd (pi_list (pe_callD d_in_order (hr.mono (by decide)) (pa_cons (pe_callTy (call_listD rfl) (by rfl) T.n_list (by decide +kernel) (pa_cons (pv 1) pa_nil)) pa_nil))) (blkOk_by (N := N_with_parents) (sc := defScope s_with_parents) (by decide +kernel)) (fun _ _ _ _ _ => pg_name (i := 2) sc_with_parents.nd rfl (Or.inl rfl)) (fun _ _ _ _ _ => pts_nil) (fun _ _ _ _ _ => pv 2) (fun _ _ _ _ _ => pe_dget hu1 (pv 1) (pv 2) (fun _ _ => rfl))))))), ?_⟩
  obtain ⟨d, es, rfl, hd, ok, hlen, hq⟩ := h
  have hbig := sizeLine_big
  have hel : es.length ≤ (fullU es).length := fullN_ge es es
  have hkl : ∀ l : List (Str × V), (kv l).length = l.length := fun l => by unfold kv; rw [List.length_map]
  obtain ⟨gr, _⟩ := full_grown ok
  refine ⟨_, rfl, d, _, rfl, Or.inl hd, fun e he => ?_⟩
  have ned : d ≠ e := ne_of_none hd he
  have hd1 : (upd H e (.dK (kv es))) d = some (.dK (kv es)) := same_new he _ _ hd
  have he1 : (upd H e (.dK (kv es))) e = some (.dK (kv es)) := upd_same
  have S1 : Same H (upd H e (.dK (kv es))) := same_new he
  generalize (upd H e (.dK (kv es))) = G at hd1 he1 S1
  refine ⟨d, _, hd1, True.intro, fun od => ?_⟩
  refine ⟨_, rfl, d, od, rfl, Or.inl ⟨kv es, upd_same, ?_⟩⟩
  have hl0 : (upd G d (.frz od (.dK (kv es)))) d = some (.frz od (.dK (kv es))) := upd_same
  have hle : (upd G d (.frz od (.dK (kv es)))) e = some (.dK (kv es)) := by rw [upd_ne ned.symm]; exact he1
  have hLG : ∀ b o, b ≠ d → G b = some o → (upd G d (.frz od (.dK (kv es)))) b = some o := fun b o n e => by rw [upd_ne n]; exact e
  generalize (upd G d (.frz od (.dK (kv es)))) = L at hl0 hle hLG
  refine for_it walk_keys (fun i σ H' => ∃ v2 v3, σ = [some (.ref d), some (.ref e), v2, v3] ∧ Keep e L H' ∧ H' e = some (.dK (kv (fullN es (es.take i))))) ⟨_, _, rfl, Keep.refl e L, hle⟩ (fun i σ H' _ ⟨_, _, _, kp, _⟩ => kp _ _ ned hl0) ?_ ?_
  · rintro i x σ H1 H2 hi ⟨v2, v3, rfl, kp, he1⟩ ⟨rfl, k, v, hk, rfl⟩
    obtain ⟨p, rfl, hie, hm⟩ := kv_get hk
    obtain ⟨hp1, hp2⟩ := ok.pl _ hm
    have en : fullN es (es.take (i + 1)) = addB (fullN es (es.take i)) (begs p) := by rw [List.take_add_one, hie, fullN_app]; rfl
    have hfl : (addB (fullN es (es.take i)) (begs p)).length ≤ 1000000 := by
      rw [← en]
      have h1 := fullN_ge (es.drop (i + 1)) (fullN es (es.take (i + 1)))
      rw [← fullN_app, List.take_append_drop] at h1
      exact Nat.le_trans h1 hlen
    generalize fullN es (es.take i) = A at he1 en hfl
    refine ⟨_, rfl, p, rfl, hp2, hp1, fun H3 b s3 nb hb => ?_⟩
    have nbe : b ≠ e := fun q => by rw [q, he1] at nb; cases nb
    refine ⟨b, rfl, ⟨_, SqL.of hb⟩, for_list (K := K) (a := b) (xs := (begs p).map V.str) (fun j σ H' => ∃ v3, σ = [some (.ref d), some (.ref e), some (.str p), v3] ∧ Keep e H3 H' ∧ H' e = some (.dK (kv (addB A ((begs p).take j))))) ⟨_, rfl, Keep.refl e H3, s3 _ _ he1⟩ (fun j σ H' _ ⟨_, _, k', _⟩ => SqL.of (k' _ _ nbe hb)) ?_ ?_⟩
    · rintro j x σ H4 hj ⟨v3, rfl, k4, he4⟩
      rw [List.getElem?_map] at hj
      obtain ⟨s0, hs0', rfl⟩ : ∃ s0, (begs p)[j]? = some s0 ∧ x = .str s0 := by
        cases e' : (begs p)[j]? with
        | none => rw [e'] at hj; cases hj
        | some q => rw [e'] at hj; exact ⟨q, rfl, (Option.some.inj hj).symm⟩
      have ej : addB A ((begs p).take (j + 1)) = if s0 ∈ (addB A ((begs p).take j)).map (·.1) then addB A ((begs p).take j) else addB A ((begs p).take j) ++ [(s0, .non)] := by rw [List.take_add_one, hs0', addB_app]; rfl
      have hBl : (addB A ((begs p).take j)).length ≤ 1000000 := by
        have h1 := addB_ge ((begs p).drop j) (addB A ((begs p).take j))
        rw [← addB_app, List.take_append_drop] at h1
        exact Nat.le_trans h1 hfl
      generalize addB A ((begs p).take j) = B at he4 ej hBl
      refine ⟨_, rfl, e, rfl, Or.inl ⟨_, Or.inl he4⟩, _, rfl, kv B, .inr s0, he4, rfl, by rw [hkl]; omega, fun v hv2 => ⟨_, rfl, k4, ?_⟩, fun hno => ⟨_, rfl, fun c o n eo => ?_, ?_⟩⟩
      · rw [ej, if_pos (val_key hv2)]; exact he4
      · rw [upd_ne n]; exact k4 c o n eo
      · have hni : s0 ∉ B.map (·.1) := fun hm => by
          obtain ⟨v, hv⟩ := key_val hm
          rw [hv] at hno; cases hno
        rw [upd_same, ej, if_neg hni, putK_new _ hno]
        unfold kv
        rw [List.map_append]; rfl
    · rintro σ H4 ⟨v3, rfl, k4, he4⟩
      rw [List.length_map, List.take_length, ← en] at he4
      exact ⟨_, _, rfl, (kp.trans (Same.keep s3)).trans k4, he4⟩
  rintro σ H1 ⟨v2, v3, rfl, kp, he2⟩
  rw [hkl, List.take_length] at he2
  refine ⟨kp _ _ ned hl0, ?_⟩
  have S2 : Same H (upd H1 d (.dK (kv es))) := fun b o eo => by
    by_cases hb : b = d
    · subst hb
      rw [hd] at eo
      rw [upd_same, eo]
    · rw [upd_ne hb]
      exact kp b o (ne_of_none eo he) (hLG b o hb (S1 b o eo))
  have he3 : (upd H1 d (.dK (kv es))) e = some (.dK (kv (fullU es))) := by rw [upd_ne ned.symm]; exact he2
  generalize (upd H1 d (.dK (kv es))) = G2 at S2 he3
  refine ⟨_, rfl, e, _, rfl, Or.inl he3, fun q hq1 => ?_⟩
  rw [keys_kv]
  refine ⟨q, (fullU es).map (·.1), rfl, SqL.of upd_same, fun x hx => ?_, fun H3 p s3 np hp => ?_⟩
  · obtain ⟨e', he', rfl⟩ := List.mem_map.mp hx
    exact (full_pl ok e' he').1.2
  have S3 : Same G2 H3 := (same_new hq1).trans s3
  have he4 := S3 _ _ he3
  have hpk : ∀ i, (pkE es)[i]? = (((fullU es).map (·.1)).mergeSort (PySem.W.dataLe false keyD))[i]?.map fun p => (p, (valV (kv (fullU es)) (.inr p)).getD .non) := fun i => by unfold pkE; rw [List.getElem?_map]
  have hkm : ∀ p ∈ ((fullU es).map (·.1)).mergeSort (PySem.W.dataLe false keyD), ∃ v, (p, v) ∈ fullU es := fun p hp => by
    obtain ⟨e, he, rfl⟩ := List.mem_map.mp (sort_mem.mp hp)
    exact ⟨e.2, he⟩
  have hksl : (((fullU es).map (·.1)).mergeSort (PySem.W.dataLe false keyD)).length = (pkE es).length := by unfold pkE; rw [List.length_map]
  generalize ((fullU es).map (·.1)).mergeSort (PySem.W.dataLe false keyD) = ks at hp hpk hkm hksl
  have hkpl := pkE_len es
  refine ⟨p, rfl, ⟨_, SqL.of hp⟩, fun D hD => ?_⟩
  refine dc_it (walk_list (xs := ks.map V.str)) (fun i H' => Same H3 H' ∧ H' D = some (.dK (kv ((pkE es).take i)))) ⟨same_new hD, upd_same⟩ (fun i H' _ h => sqL_same h.1 (SqL.of hp)) ?_ ?_
  · rintro i x H4 H5 hi ⟨s4, hD4⟩ ⟨rfl, hx⟩
    rw [List.getElem?_map] at hx
    cases e' : ks[i]? with
    | none => rw [e'] at hx; cases hx
    | some pth =>
      rw [e'] at hx
      cases hx
      obtain ⟨v, hm⟩ := hkm pth (List.mem_of_getElem? e')
      have hv := val_mem gr.nd hm
      have hpe : (pkE es)[i]? = some (pth, v) := by rw [hpk, e']; show some (pth, (valV (kv (fullU es)) (.inr pth)).getD .non) = _; rw [hv]; rfl
      have he5 := s4 _ _ he4
      have hil := (List.getElem?_eq_some_iff.mp hpe).1
      refine ⟨rfl, _, rfl, _, rfl, _, rfl, e, v, rfl, by have := DGet.k (k := Sum.inr pth) he5; rw [hv] at this; exact this, _, .inr pth, rfl, hD4, ?_, fun b o eb => ?_, ?_⟩
      · rw [hkl, List.length_take]; omega
      · rw [upd_ne (ne_of_none eb hD)]; exact s4 _ _ eb
      · rw [upd_same, put_next (pkE_nd ok) hpe]
  · rintro H4 ⟨s4, hD4⟩
    rw [List.length_map, hksl, List.take_length] at hD4
    have S := (S2.trans S3).trans s4
    exact hq H4 D S ((S2.trans S3).free hD) hD4
end
end KF

set_option Elab.async false
set_option linter.all false
set_option maxRecDepth 100000
set_option maxHeartbeats 4000000
namespace LF
open PySem PySem.Spec PyProof.Rows L2
/-! a dict comprehension with two clauses, {k: v for a in p if .. for b in q if ..} -/
abbrev dcx (kx vx ga pa gb pb : Expr) (fa fb : List Expr) (sc : Scope) (pz : Pos) : Expr := .DictComp kx vx [⟨ga, pa, fa, 0⟩, ⟨gb, pb, fb, 0⟩] sc pz
/-- the tests of a clause -/
abbrev tsts (fs : List Expr) (ev : Env) : Sem Bool := forIn fs true fun c r => if r = true then do let ok ← isTrue c ev (eval c ev); pure (ForInStep.yield ok) else pure (ForInStep.yield r)
theorem dcTurnA (kx vx ga pa gb pb : Expr) (fa fb : List Expr) (sc : Scope) (pz : Pos) (jt ac : Value) (ev : Env) :
    compTurn (dcx kx vx ga pa gb pb fa fb sc pz) 0 jt ac ev = (standAt pa.pos >>= fun _ => pyNext jt >>= fun r => match r with
      | none => pure (.done .next)
      | some v => letOwnedTupleGo ga jt v >>= fun _ => assign ga ev v >>= fun _ => tsts fa ev >>= fun ok => (if ok = true then
          eval pb ev >>= fun x => standAt pb.pos >>= fun _ => foldedSetIterable pb ev x >>= fun x => holding [x] (pyIter x) >>= fun jt1 => runOwn (.compStart (dcx kx vx ga pa gb pb fa fb sc pz) 1 jt1 ac ev) ev >>= fun _ =>
            again (.compLoop (dcx kx vx ga pa gb pb fa fb sc pz) 0 jt ac ev)
          else again (.compLoop (dcx kx vx ga pa gb pb fa fb sc pz) 0 jt ac ev))) := by rfl
theorem dcTurnB (kx vx ga pa gb pb : Expr) (fa fb : List Expr) (sc : Scope) (pz : Pos) (jt : Value) (D : Addr) (ev : Env) :
    compTurn (dcx kx vx ga pa gb pb fa fb sc pz) 1 jt (.ref D) ev = (standAt pb.pos >>= fun _ => pyNext jt >>= fun r => match r with
      | none => pure (.done .next)
      | some v => letOwnedTupleGo gb jt v >>= fun _ => assign gb ev v >>= fun _ => tsts fb ev >>= fun ok => (if ok = true then
          (eval kx ev >>= fun kv => holding [kv] (eval vx ev) >>= fun vv => standAt { kx.pos with endLine := vx.pos.endLine, endCol := vx.pos.endCol } >>= fun _ => holding [kv, vv] (dictSet D kv vv)) >>= fun _ =>
            again (.compLoop (dcx kx vx ga pa gb pb fa fb sc pz) 1 jt (.ref D) ev)
          else again (.compLoop (dcx kx vx ga pa gb pb fa fb sc pz) 1 jt (.ref D) ev))) := by rfl
section
variable {prog : Program} {w : World} {A : Around} {R : Result → Shared → Prop} {s : Shared} {kx vx ga pa gb pb : Expr} {fa fb : List Expr} {sc : Scope} {pz : Pos} {jt : Value} {D : Addr} {ev : Env}
abbrev nby (prog : Program) (w : World) (A : Around) (R : Result → Shared → Prop) (ev : Env) : Value → Shared → Prop := notedBy (model prog w) A ev fun e z => R (.error e) z
theorem dcLoopA (hf : ∀ x, foldedSetIterable pb ev x = pure x) (J : Nat → Shared → Prop)
    (turn : ∀ n z, J n z → wpAny (model prog w) A (pyNext jt) (fun r z1 => match r with
      | none => R (.ok .next) z1
      | some v => wpAny (model prog w) A (letOwnedTupleGo ga jt v) (fun _ z2 => wpAny (model prog w) A (assign ga ev v) (fun _ z3 => wpAny (model prog w) A (tsts fa ev) (fun ok z4 =>
          if ok = true then wpAny (model prog w) A (eval pb ev) (fun x z5 => wpAny (model prog w) A (pyIter x) (fun jt1 z6 =>
              codeAny (model prog w) A (.compStart (dcx kx vx ga pa gb pb fa fb sc pz) 1 jt1 (.ref D) ev) (fun r y => match r with
                | .ok _ => ∃ m, m < n ∧ J m y
                | .error _ => False) z6) (nby prog w A R ev) z5) (nby prog w A R ev) z4
          else ∃ m, m < n ∧ J m z4) (nby prog w A R ev) z3) (nby prog w A R ev) z2) (nby prog w A R ev) z1) (nby prog w A R ev) z)
    (n : Nat) (h : J n s) : codeAny (model prog w) A (.compLoop (dcx kx vx ga pa gb pb fa fb sc pz) 0 jt (.ref D) ev) R s := by
  refine codeAny_loop rfl J (fun n z hJ => ?_) n h
  show wpAny _ A ((compTurn (dcx kx vx ga pa gb pb fa fb sc pz) 0 jt (.ref D) ev).onRaise (fun x => do noteFrame x ev; theTreesLotGoes x)) _ _ z
  refine wpAny_noted ?_
  rw [dcTurnA]
  refine wpAny_bind (wpAny_standAt (wpAny_bind (wpAny_mono (turn n z hJ) (fun r z1 h1 => ?_) fun _ _ k => k)))
  cases r with
  | none => exact wpAny_pure h1
  | some v =>
    refine wpAny_bind (wpAny_mono h1 (fun _ z2 h2 => wpAny_bind (wpAny_mono h2 (fun _ z3 h3 => wpAny_bind (wpAny_mono h3 (fun ok z4 h4 => ?_) fun _ _ k => k)) fun _ _ k => k)) fun _ _ k => k)
    cases ok with
    | false => exact wpAny_pure ⟨rfl, h4⟩
    | true =>
      refine wpAny_bind (wpAny_mono h4 (fun x z5 h5 => wpAny_bind (wpAny_standAt (wpAny_bind (wpAny_of_eq (hf x) (wpAny_bind (wpAny_holding (wpAny_mono h5 (fun jt1 z6 h6 => ?_) fun _ _ k => k))))))) fun _ _ k => k)
      refine wpAny_bind (wpAny_runOwn ?_)
      rw [Around.mark_none]
      refine codeAny_mono h6 fun r y hr => ?_
      cases r with
      | ok f => exact wpAny_pure ⟨rfl, hr⟩
      | error e => exact hr.elim
theorem dcLoopB (J : Nat → Shared → Prop)
    (turn : ∀ n z, J n z → wpAny (model prog w) A (pyNext jt) (fun r z1 => match r with
      | none => R (.ok .next) z1
      | some v => wpAny (model prog w) A (letOwnedTupleGo gb jt v) (fun _ z2 => wpAny (model prog w) A (assign gb ev v) (fun _ z3 => wpAny (model prog w) A (tsts fb ev) (fun ok z4 =>
          if ok = true then wpAny (model prog w) A (eval kx ev) (fun kv z5 => wpAny (model prog w) A (eval vx ev) (fun vv z6 =>
              wpAny (model prog w) A (dictSet D kv vv) (fun _ z7 => ∃ m, m < n ∧ J m z7) (nby prog w A R ev) z6) (nby prog w A R ev) z5) (nby prog w A R ev) z4
          else ∃ m, m < n ∧ J m z4) (nby prog w A R ev) z3) (nby prog w A R ev) z2) (nby prog w A R ev) z1) (nby prog w A R ev) z)
    (n : Nat) (h : J n s) : codeAny (model prog w) A (.compLoop (dcx kx vx ga pa gb pb fa fb sc pz) 1 jt (.ref D) ev) R s := by
  refine codeAny_loop rfl J (fun n z hJ => ?_) n h
  show wpAny _ A ((compTurn (dcx kx vx ga pa gb pb fa fb sc pz) 1 jt (.ref D) ev).onRaise (fun x => do noteFrame x ev; theTreesLotGoes x)) _ _ z
  refine wpAny_noted ?_
  rw [dcTurnB]
  refine wpAny_bind (wpAny_standAt (wpAny_bind (wpAny_mono (turn n z hJ) (fun r z1 h1 => ?_) fun _ _ k => k)))
  cases r with
  | none => exact wpAny_pure h1
  | some v =>
    refine wpAny_bind (wpAny_mono h1 (fun _ z2 h2 => wpAny_bind (wpAny_mono h2 (fun _ z3 h3 => wpAny_bind (wpAny_mono h3 (fun ok z4 h4 => ?_) fun _ _ k => k)) fun _ _ k => k)) fun _ _ k => k)
    cases ok with
    | false => exact wpAny_pure ⟨rfl, h4⟩
    | true =>
      exact wpAny_bind (wpAny_bind (wpAny_mono h4 (fun kv z5 h5 => wpAny_bind (wpAny_holding (wpAny_mono h5 (fun vv z6 h6 => wpAny_bind (wpAny_standAt (wpAny_holding (wpAny_mono h6 (fun _ z7 h7 => wpAny_pure ⟨rfl, h7⟩) fun _ _ k => k)))) fun _ _ k => k))) fun _ _ k => k))
theorem dcStartB (h0 : codeAny (model prog w) A (.compLoop (dcx kx vx ga pa gb pb fa fb sc pz) 1 jt (.ref D) ev) R s)
    (h : wpAny (model prog w) A (pyIter jt) (fun jt' z => codeAny (model prog w) A (.compLoop (dcx kx vx ga pa gb pb fa fb sc pz) 1 jt' (.ref D) ev) R z) (nby prog w A R ev) s) :
    codeAny (model prog w) A (.compStart (dcx kx vx ga pa gb pb fa fb sc pz) 1 jt (.ref D) ev) R s := by
  refine codeAny_of_tree ?_
  show wpAny _ _ ((compStart (dcx kx vx ga pa gb pb fa fb sc pz) 1 jt (.ref D) ev).onRaise (fun x => do noteFrame x ev; standAt theWindowsPlace)) _ _ s
  refine wpAny_notedAt ?_
  unfold compStart
  show wpAny _ _ (ask >>= _) _ _ s
  refine wpAny_bind (wpAny_askSetting (wpAny_ite ?_))
  split
  · first
      | exact wpAny_bind (wpAny_pure (wpAny_pure (And.intro rfl h0)))
      | exact wpAny_pure (And.intro rfl h0)
  · first
      | exact wpAny_bind (wpAny_rule (wpAny_bind (wpAny_standAt (wpAny_bind (wpAny_mono h (fun jt' z k => wpAny_pure (And.intro rfl k)) fun _ _ x => x)))))
      | (refine wpAny_bind (wpAny_rule ?_); show wpAny _ _ (standAt pb.pos >>= _) _ _ s; exact wpAny_bind (wpAny_standAt (wpAny_bind (wpAny_mono h (fun jt' z k => wpAny_pure (And.intro rfl k)) fun _ _ x => x))))
end
end LF

set_option Elab.async false
set_option linter.all false
set_option maxRecDepth 100000
set_option maxHeartbeats 4000000
namespace LF
open PySem PySem.Spec PyProof.Rows L2
/-- what one turn of the second clause must bring: G is asked of the heap behind it -/
abbrev dcIn (tk tv : TE) (D : Addr) (σ : L2.St) (H : Hp) (G : Hp → Prop) : Prop := tk σ H fun y H1 => tv σ H1 fun z H2 => ∃ kvs k, y = kV k ∧ H2 D = some (.dK kvs) ∧ kvs.length < sizeLine ∧ G (upd H2 D (.dK (putK kvs k z)))
/-- the second clause, from the slots σ: Out is asked behind its last turn -/
def dcB (wb : TI) (gb : TG) (tb : TT) (tk tv : TE) (vb : List Nat) (D : Addr) (σ : L2.St) (H : Hp) (Out : Hp → Prop) : Prop := wb σ H fun J H1 => ∃ W : Nat → Nat → Hp → Prop, (∃ m, W 0 m H1) ∧ ∀ j k H, W j k H →
  (J.stop j H ∧ Out H) ∨ (J.go j H ∧ ∃ N : Hp → Prop, (∀ H', N H' → ∃ k', k' < k ∧ W (j + 1) k' H') ∧ ∀ x H', J.yld j H x H' → gb x (wipe σ vb) H' fun σ1 H2 => wipe σ1 vb = wipe σ vb ∧ tb σ1 H2 fun b H3 => if b = true then dcIn tk tv D σ1 H3 N else N H3)
def tDc2 (wa : TI) (ga : TG) (ta : TT) (wb : TI) (gb : TG) (tb : TT) (tk tv : TE) (va vb : List Nat) : TE := fun σ H Q => wa σ H fun J H1 => ∀ D, H1 D = none → ∃ W : Nat → Nat → Hp → Prop, (∃ m, W 0 m (upd H1 D (.dK []))) ∧ ∀ i m H, W i m H →
  (J.stop i H ∧ Q (.ref D) H) ∨ (J.go i H ∧ ∃ N : Hp → Prop, (∀ H', N H' → ∃ m', m' < m ∧ W (i + 1) m' H') ∧ ∀ x H', J.yld i H x H' → ga x (wipe σ va) H' fun σ1 H2 => wipe σ1 va = wipe σ va ∧ ta σ1 H2 fun b H3 => if b = true then dcB wb gb tb tk tv vb D σ1 H3 N else N H3)
section
variable {X : Cx}
/-- what is shown of each part of the block, wherever it stands -/
abbrev atBlk (X : Cx) (sc : Scope) (φ : Cx → Prop) : Prop := ∀ (s : Shared) (H : Hp) (C : Addr) (cl : List (Str × Addr)) (fp : List Addr), φ (X.blk s H sc (compEnvC sc cl C X.env) fp)
theorem dc2_run {pins : List (Addr × Obj)} {s : Shared} {σ : L2.St} {H : Hp} {Q : VK} {kx vx ea pa eb pb : Expr} {fa fb : List Expr} {sc : Scope} {own : List (Str × Nat)} {vb : List Nat} {pz pz' : Pos} {wa wb : TI} {ga gb : TG} {ta tb : TT} {tk tv : TE} {use : Option (Value → Sem Unit)} {Qf : Value → Shared → Prop}
    (hc : X.calm = true) (hN : X.N.Nodup) (I : Inv X pins σ H s) (hi : PI X ea pa wa) (bo : BlkOk X.N X.env.scope sc own) (hv : ∀ i ∈ vb, i ∈ own.map (·.2))
    (hga : atBlk X sc fun Y => PG Y ea ga) (hta : atBlk X sc fun Y => PTs Y fa ta) (hib : atBlk X sc fun Y => PI Y eb pb wb) (hgb : atBlk X sc fun Y => PG Y eb gb) (htb : atBlk X sc fun Y => PTs Y fb tb)
    (hk : atBlk X sc fun Y => PE Y kx tk) (hx : atBlk X sc fun Y => PE Y vx tv) (fla : ∀ x, foldedSetIterable pa X.env x = pure x) (flb : ∀ ev x, foldedSetIterable pb ev x = pure x)
    (h : tDc2 wa ga ta wb gb tb tk tv (own.map (·.2)) vb σ H Q)
    (back : ∀ D C y m H', Inv X pins σ H' y → Q (.ref D) H' → y.heap.Ns C m → FpOk X pins H' C → compPost (model X.prog X.w) X.A X.xe use Qf (.ref D) C (.ok .next) y) :
    wpAny (model X.prog X.w) X.A (comprehension (dcx kx vx ea pa eb pb fa fb sc pz) sc X.env pz' newDict false (eval pa X.env) use) Qf X.xe s := by
  have cells : ∀ y ∈ sc.names, y.2 = .free → ∃ c, X.env.cells.lookup y.1 = some c := fun y hy e => (bo.free y hy e).elim (fun k => I.ok.has _ (.inl k)) (fun k => I.ok.has _ (.inr k))
  refine wpAny_comprehension_free (use := use) rfl fla (closure_ok cells) bo.kind (fun y hy e => by rw [bo.uniq y hy, e]) (thn (hi.run pins s σ H _ I h) fun va' z1 k1 => thn k1 fun it' z2 k2 => ?_)
  obtain ⟨ia, fpa, na, Ja, Ha, ei, Ia, Ta, sa, fa0, qa⟩ := k2
  subst ei
  refine wpAny_newObj_type (newEnv_comp ?_)
  generalize eD : z2.heap.objs.size = D
  obtain ⟨W, ⟨m0, w0⟩, turnA⟩ := qa D (Ia.hok.fresh (Nat.le_of_eq eD))
  generalize ez3 : ({ z2 with heap := z2.heap.push { cls := .type "dict", data := .dict #[] } } : Shared) = z3
  have hp3 : z3.heap = z2.heap.push { cls := .type "dict", data := .dict #[] } := by rw [← ez3]
  have I3 : Inv X pins σ (upd Ha D (.dK [])) z3 := by
    rw [← ez3]
    refine Ia.laid (t' := z2.toks) (fun _ _ e => Heap.get?_push_of_some _ e) (Nat.le_of_eq eD) ?_
    rw [← eD]
    exact dk_empty z2.heap Ia.big
  have lo : ∀ b ∈ fpa, b < z2.heap.objs.size := fun b hb => let ⟨_, e, _⟩ := Ta.obj _ _ sa b hb; Heap.lt_size e
  have fa3 : ∀ b ∈ fpa, FpOk X pins (upd Ha D (.dK [])) b ∧ b < z3.heap.objs.size := fun b hb => by
    refine ⟨⟨?_, (fa0 b hb).2⟩, by rw [hp3, Heap.size_push]; exact Nat.lt_succ_of_lt (lo b hb)⟩
    rw [upd_ne (by rw [← eD]; exact Nat.ne_of_lt (lo b hb))]
    exact (fa0 b hb).1
  have sa3 : na 0 z3.heap := Ta.keep _ _ _ sa fun _ _ _ e => by rw [hp3]; exact Heap.get?_push_of_some _ e
  have Ib := block_start I3 bo hN fa3
  show codeAny _ _ (.compStart (dcx kx vx ea pa eb pb fa fb sc pz) 0 (.ref ia) (.ref D) (compEnvC sc (cellsFrom (z3.heap.objs.size + 1) sc.names (cloFrom X.env.cells sc.names [])) z3.heap.objs.size X.env))
    (compPost (model X.prog X.w) X.A X.xe use Qf (.ref D) z3.heap.objs.size) { z3 with heap := pushCells (z3.heap.push { cls := .type "dict", data := .dict #[] }) sc.names }
  generalize cellsFrom (z3.heap.objs.size + 1) sc.names (cloFrom X.env.cells sc.names []) = cl at Ib ⊢
  have pga := hga z3 (upd Ha D (.dK [])) z3.heap.objs.size cl fpa
  have pta := hta z3 (upd Ha D (.dK [])) z3.heap.objs.size cl fpa
  have pib := hib z3 (upd Ha D (.dK [])) z3.heap.objs.size cl fpa
  have pgb := hgb z3 (upd Ha D (.dK [])) z3.heap.objs.size cl fpa
  have ptb := htb z3 (upd Ha D (.dK [])) z3.heap.objs.size cl fpa
  have pk := hk z3 (upd Ha D (.dK [])) z3.heap.objs.size cl fpa
  have px := hx z3 (upd Ha D (.dK [])) z3.heap.objs.size cl fpa
  have nfa : ∀ b ∈ fpa, (upd Ha D (.dK [])) b = none := fun b hb => (fa3 b hb).1.1
  generalize ece : compEnvC sc cl z3.heap.objs.size X.env = ce at Ib pga pta pib pgb ptb pk px ⊢
  have ceL : ce.locals = z3.heap.objs.size := by subst ece; rfl
  generalize eH3 : upd Ha D (.dK []) = H3 at I3 Ib pga pta pib pgb ptb pk px w0 nfa fa3
  generalize ez4 : ({ z3 with heap := pushCells (z3.heap.push { cls := .type "dict", data := .dict #[] }) sc.names } : Shared) = z4 at Ib ⊢
  have sa4 : na 0 z4.heap := Ta.keep _ _ _ sa3 fun _ _ _ e => by rw [← ez4]; exact pushCells_keeps _ _ _ _ (Heap.get?_push_of_some _ e)
  generalize eY : X.blk z3 H3 sc ce fpa = Y at Ib pga pta pib pgb ptb pk px
  have cY : Y.calm = true := by rw [← eY]; exact hc
  have stay : ∀ {σ' : L2.St} {H' : Hp} {y : Shared}, Inv Y [] σ' H' y → (∀ b ∈ fpa, H' b = none) → ∀ b ∈ fpa, FpOk Y [] H' b := fun {σ' H' y} I' hn b hb => by
    subst eY
    exact ⟨hn b hb, (I'.ok.exf b hb).1, I'.ok.exfs b hb, .inl hb, fun x c e => (I'.ok.exf b hb).2 x c e, fun p hp => absurd (show p ∈ ([] : List (Addr × Obj)) ++ [] from hp) (by simp)⟩
  let st0 := wipe σ (own.map (·.2))
  let Turn : Nat → Shared → Prop := fun n y => ∃ i H', Inv Y [] st0 H' y ∧ na i y.heap ∧ (∀ b ∈ fpa, H' b = none) ∧ W i n H'
  have eP : model Y.prog Y.w = model X.prog X.w := by subst eY; rfl
  have eA : Y.A = X.A := by subst eY; rfl
  have loopA : codeAny (model X.prog X.w) X.A (.compLoop (dcx kx vx ea pa eb pb fa fb sc pz) 0 (.ref ia) (.ref D) ce) (compPost (model X.prog X.w) X.A X.xe use Qf (.ref D) z3.heap.objs.size) z4 := by
    refine dcLoopA (flb ce) Turn ?_ m0 ⟨0, H3, Ib, sa4, nfa, w0⟩
    rintro n z5 ⟨i, H5, I5, s5, n5, w5⟩
    rcases turnA i n H5 w5 with ⟨stop, qq⟩ | ⟨go, N, hNx, step⟩
    · subst eY
      refine thnF (Ta.done (X.blk z3 H3 sc ce fpa) rfl rfl rfl hc i [] z5 _ H5 (fun _ _ => False) I5 (stay I5 n5) s5 stop) fun r z6 ⟨hr, I6⟩ => ?_
      subst hr
      have I7 : Inv X pins σ H5 z6 := I3.call' (ch := fpa) I6.os I6.base I6.hok I6.bare fun b hb => ⟨(fa3 b hb).1.2.2.2.1, (fa3 b hb).1.2.1, (fa3 b hb).1.2.2.2.2.1, (fa3 b hb).1.2.2.2.2.2⟩
      have nC : H5 z3.heap.objs.size = none := by have q0 : H5 ce.locals = none := I6.free; rw [ceL] at q0; exact q0
      obtain ⟨m, hn, _⟩ := I6.loc
      have hn' : z6.heap.Ns ce.locals m := hn
      rw [ceL] at hn'
      exact back D z3.heap.objs.size z6 m H5 I7 qq hn' (I3.fpOk (Nat.le_refl _) nC)
    · subst eY
      refine thnF (Ta.item (X.blk z3 H3 sc ce fpa) rfl rfl rfl hc i [] z5 _ H5 (fun _ _ => False) I5 (stay I5 n5) s5 go) fun r z6 ⟨u, hr, k6⟩ => ?_
      subst hr
      refine thnF k6 fun _ z7 ⟨x, H7, I7, r7, y7, s7, n7⟩ => ?_
      have I7p := I7.pinned (stay I7 n7) (Ta.obj _ _ s7)
      refine thnF (pga.run _ z7 _ H7 x u _ I7p r7 (step x H7 y7)) fun _ z8 ⟨σ8, H8, I8, hw8, q8⟩ => ?_
      refine thnF (pta.run _ z8 σ8 H8 _ I8 q8) fun b z9 ⟨H9, I9, q9⟩ => ?_
      -- behind the turn, from slots that still know what the block knew
      have ends : ∀ {τ : L2.St} {y : Shared} {H' : Hp}, Inv (X.blk z3 H3 sc ce fpa) ([] ++ pinsAt fpa z7.heap) τ H' y → st0.length = τ.length → (∀ (j : Nat) v, st0[j]? = some (some v) → τ[j]? = some (some v)) → N H' → ∃ m, m < n ∧ Turn m y := fun {τ y H'} I' hl hkn nx => by
        obtain ⟨m', lt, w'⟩ := hNx H' nx
        have same : ∀ b ∈ fpa, ∀ o, z7.heap.get? b = some o → y.heap.get? b = some o ∧ H' b = none := fun b hb o e => let q := I'.pin (b, o) (List.mem_append_right _ (List.mem_append_right _ (mem_pinsAt hb e))); ⟨q.1, q.2.1⟩
        refine ⟨m', lt, i + 1, H', (I'.unpinned (pins := [])).weak hl hkn, Ta.keep _ _ _ s7 fun b hb o e => (same b hb o e).1, fun b hb => ?_, w'⟩
        obtain ⟨o, e, _⟩ := Ta.obj _ _ s7 b hb
        exact (same b hb o e).2
      have ln8 : st0.length = σ8.length := by show (wipe σ _).length = _; rw [← hw8, wipe_length]
      have kn8 : ∀ (j : Nat) v, st0[j]? = some (some v) → σ8[j]? = some (some v) := fun j v e => (wipe_some (show (wipe σ8 _)[j]? = _ by rw [hw8]; exact e)).1
      have kn9 : ∀ (j : Nat) v, st0[j]? = some (some v) → (wipe σ8 vb)[j]? = some (some v) := fun j v e => by
        obtain ⟨e1, e2⟩ := wipe_some (show (wipe σ8 (own.map (·.2)))[j]? = some (some v) by rw [hw8]; exact e)
        rw [wipe_out fun q => e2 (hv j q)]
        exact e1
      cases b with
      | false => exact ends I9 ln8 kn8 q9
      | true =>
        refine thnF (pib.run _ z9 σ8 H9 _ I9 q9) fun vv' z10 k10 => thnF k10 fun it'' z11 k11 => ?_
        obtain ⟨ib, fpb, nb, Jb, Hb, ej, I11, Tb, s11, fb0, Wb, ⟨mb, wb0⟩, turnB⟩ := k11
        subst ej
        have stayB : ∀ {H' : Hp}, (∀ b ∈ fpb, H' b = none) → ∀ b ∈ fpb, FpOk (X.blk z3 H3 sc ce fpa) ([] ++ pinsAt fpa z7.heap) H' b := fun hn b hb => ⟨hn b hb, (fb0 b hb).2⟩
        let TurnB : Nat → Shared → Prop := fun k y => ∃ j H', Inv (X.blk z3 H3 sc ce fpa) ([] ++ pinsAt fpa z7.heap) (wipe σ8 vb) H' y ∧ nb j y.heap ∧ (∀ b ∈ fpb, H' b = none) ∧ Wb j k H'
        have loopB : codeAny (model X.prog X.w) X.A (.compLoop (dcx kx vx ea pa eb pb fa fb sc pz) 1 (.ref ib) (.ref D) ce) (fun r y => match r with
            | .ok _ => ∃ m, m < n ∧ Turn m y
            | .error _ => False) z11 := by
          refine dcLoopB TurnB ?_ mb ⟨0, Hb, I11.weak (wipe_length _ _) (fun j v e => (wipe_some e).1), s11, fun b hb => (fb0 b hb).1, wb0⟩
          rintro k z12 ⟨j, H12, I12, s12, n12, w12⟩
          rcases turnB j k H12 w12 with ⟨stop1, nx1⟩ | ⟨go1, N1, hN1, step1⟩
          · refine thnF (Tb.done (X.blk z3 H3 sc ce fpa) rfl rfl rfl hc j _ z12 (wipe σ8 vb) H12 (fun _ _ => False) I12 (stayB n12) s12 stop1) fun r z13 ⟨hr, I13⟩ => ?_
            subst hr
            exact ends I13 (ln8.trans (wipe_length σ8 vb).symm) kn9 nx1
          · refine thnF (Tb.item (X.blk z3 H3 sc ce fpa) rfl rfl rfl hc j _ z12 (wipe σ8 vb) H12 (fun _ _ => False) I12 (stayB n12) s12 go1) fun r z13 ⟨u1, hr, k13⟩ => ?_
            subst hr
            refine thnF k13 fun _ z14 ⟨x1, H14, I14, r14, y14, s14, n14⟩ => ?_
            refine thnF (pgb.run _ z14 (wipe σ8 vb) H14 x1 u1 _ (I14.pinned (stayB n14) (Tb.obj _ _ s14)) r14 (step1 x1 H14 y14)) fun _ z15 ⟨σ15, H15, I15, hw15, q15⟩ => ?_
            refine thnF (ptb.run _ z15 σ15 H15 _ I15 q15) fun b1 z16 ⟨H16, I16, q16⟩ => ?_
            have endsB : ∀ {y : Shared} {H' : Hp}, Inv (X.blk z3 H3 sc ce fpa) (([] ++ pinsAt fpa z7.heap) ++ pinsAt fpb z14.heap) σ15 H' y → N1 H' → ∃ m, m < k ∧ TurnB m y := fun {y H'} I' nx => by
              obtain ⟨m', lt, w'⟩ := hN1 H' nx
              have same : ∀ b ∈ fpb, ∀ o, z14.heap.get? b = some o → y.heap.get? b = some o ∧ H' b = none := fun b hb o e => let q := I'.pin (b, o) (List.mem_append_right _ (List.mem_append_right _ (mem_pinsAt hb e))); ⟨q.1, q.2.1⟩
              refine ⟨m', lt, j + 1, H', I'.unpinned.weak (by rw [← hw15, wipe_length]) (fun j' v e => (wipe_some (show (wipe σ15 vb)[j']? = some (some v) by rw [hw15]; exact e)).1), Tb.keep _ _ _ s14 fun b hb o e => (same b hb o e).1, fun b hb => ?_, w'⟩
              obtain ⟨o, e, _⟩ := Tb.obj _ _ s14 b hb
              exact (same b hb o e).2
            cases b1 with
            | false => exact endsB I16 q16
            | true =>
              refine thnF (pk.run _ z16 σ15 H16 _ I16 q16) fun uk z17 ⟨yk, H17, I17, r17, q17⟩ => ?_
              refine thnF (px.run _ z17 σ15 H17 _ I17 q17) fun uv z18 ⟨yv, H18, I18, r18, kvs, ky, ek, hD18, hz18, nx⟩ => ?_
              subst ek
              exact d_dictSet (X := X.blk z3 H3 sc ce fpa) I18 hD18 hz18 r17 r18 fun z19 I19 => endsB I19 nx
        exact dcStartB loopB (Tb.self X.A 0 _ _ _ s11 loopB)
  exact codeAny_compStart_dict loopA (Ta.self X.A 0 _ _ _ sa4 loopA)
theorem pe_dc2 {kx vx ea pa eb pb : Expr} {fa fb : List Expr} {sc : Scope} {own : List (Str × Nat)} {vb : List Nat} {pz : Pos} {wa wb : TI} {ga gb : TG} {ta tb : TT} {tk tv : TE}
    (hc : X.calm = true) (hN : X.N.Nodup) (hi : PI X ea pa wa) (bo : BlkOk X.N X.env.scope sc own) (hv : ∀ i ∈ vb, i ∈ own.map (·.2))
    (hga : ∀ (z : Shared) (G : Hp) (c : Addr) (cs : List (Str × Addr)) (fs : List Addr), PG (X.blk z G sc (compEnvC sc cs c X.env) fs) ea ga) (hta : ∀ (z : Shared) (G : Hp) (c : Addr) (cs : List (Str × Addr)) (fs : List Addr), PTs (X.blk z G sc (compEnvC sc cs c X.env) fs) fa ta) (hib : ∀ (z : Shared) (G : Hp) (c : Addr) (cs : List (Str × Addr)) (fs : List Addr), PI (X.blk z G sc (compEnvC sc cs c X.env) fs) eb pb wb) (hgb : ∀ (z : Shared) (G : Hp) (c : Addr) (cs : List (Str × Addr)) (fs : List Addr), PG (X.blk z G sc (compEnvC sc cs c X.env) fs) eb gb) (htb : ∀ (z : Shared) (G : Hp) (c : Addr) (cs : List (Str × Addr)) (fs : List Addr), PTs (X.blk z G sc (compEnvC sc cs c X.env) fs) fb tb)
    (hk : ∀ (z : Shared) (G : Hp) (c : Addr) (cs : List (Str × Addr)) (fs : List Addr), PE (X.blk z G sc (compEnvC sc cs c X.env) fs) kx tk) (hx : ∀ (z : Shared) (G : Hp) (c : Addr) (cs : List (Str × Addr)) (fs : List Addr), PE (X.blk z G sc (compEnvC sc cs c X.env) fs) vx tv) (fla : ∀ x, foldedSetIterable pa X.env x = pure x := by intro _; rfl) (flb : ∀ ev x, foldedSetIterable pb ev x = pure x := by intro _ _; rfl) :
    PE X (dcx kx vx ea pa eb pb fa fb sc pz) (tDc2 wa ga ta wb gb tb tk tv (own.map (·.2)) vb) := by
  refine ⟨fun pins s σ H Q I h => ?_⟩
  have e0 : eval (dcx kx vx ea pa eb pb fa fb sc pz) X.env = comprehension (dcx kx vx ea pa eb pb fa fb sc pz) sc X.env (firstIterPos [⟨ea, pa, fa, 0⟩, ⟨eb, pb, fb, 0⟩] pz) newDict false (eval pa X.env) none := by rfl
  rw [e0]
  refine dc2_run hc hN I hi bo hv hga hta hib hgb htb hk hx fla flb h fun D C y m H' I' q hn f => ⟨m, hn, fun h'' sb => ?_⟩
  obtain ⟨f0, f1, f2, f3, f4, f5⟩ := f
  exact ⟨.ref D, H', I'.turned (t' := y.toks) (fun b o hb e => (sb.2 b hb).trans e) f0 f1 f3 f4 f5, rfl, q⟩
end
end LF

set_option Elab.async false
set_option linter.all false
set_option maxRecDepth 100000
set_option maxHeartbeats 4000000
namespace KF
open PySem PySem.Spec PyProof.Rows L2 TL LF
/-! the parent of a path and its last name -/
def par (p : Str) : Str := PySem.Txt.join c_sl (parts p).dropLast
def lastN (p : Str) : Str := (parts p).getLast?.getD ""
theorem jp {z : Str} (h : ¬ z = "") : PySem.Txt.join c_sl (parts z) = z := by
  unfold parts
  rw [if_neg h, TL.join_eq]
  exact PySem.StrLaws.join_split _ _
theorem jSnocL (n : List Nat) : ∀ (l : List (List Nat)), l ≠ [] → joinL [47] (l ++ [n]) = joinL [47] l ++ 47 :: n
  | [], h => absurd rfl h
  | [p], _ => rfl
  | p :: q :: r, _ => by
    show p ++ ([47] ++ joinL [47] ((q :: r) ++ [n])) = (p ++ ([47] ++ joinL [47] (q :: r))) ++ 47 :: n
    rw [jSnocL n (q :: r) (by simp)]
    simp [List.append_assoc]
theorem jSnoc {init : List Str} (n : Str) (hne : init ≠ []) : tl (PySem.Txt.join c_sl (init ++ [n])) = tl (PySem.Txt.join c_sl init) ++ 47 :: tl n := by
  rw [TL.join_eq, TL.join_eq, tl_join, tl_join, tl_sl, List.map_append]
  exact jSnocL (tl n) _ (by simpa using hne)
theorem atMem {x : Str} {i : Nat} (h : StrLaws.At x c_sl x.length i) : 47 ∈ (tl x).drop i := by
  have h1 := (at_iff (by rw [tl_sl]; simp) i).mp h
  rw [tl_sl] at h1
  have h2 : ((tl x).drop i).take 1 = [47] := eq_of_beq h1
  exact List.mem_of_mem_take (by rw [h2]; exact List.mem_singleton_self _)
theorem rpOne {n : Str} (hn : 47 ∉ tl n) : PySem.Txt.rpartition n c_sl = ((Str.ofString "", Str.ofString "", n) : Str × Str × Str) := by
  unfold PySem.Txt.rpartition
  rcases StrLaws.last_spec n c_sl with ⟨h1, _⟩ | ⟨i, h1, h2, _⟩
  · rw [h1]; rfl
  · exact absurd (List.mem_of_mem_drop (atMem h2)) hn
theorem rpMany {init : List Str} {n : Str} (hi : init ≠ []) (hn : 47 ∉ tl n) : PySem.Txt.rpartition (PySem.Txt.join c_sl (init ++ [n])) c_sl = (PySem.Txt.join c_sl init, c_sl, n) := by
  have et := jSnoc n hi
  generalize hx : PySem.Txt.join c_sl (init ++ [n]) = x at et
  generalize hy : PySem.Txt.join c_sl init = y at et
  have hat : StrLaws.At x c_sl x.length (tl y).length := by
    refine (at_iff (by rw [tl_sl]; simp) _).mpr ?_
    rw [et, tl_sl, List.drop_left]
    rfl
  unfold PySem.Txt.rpartition
  rcases StrLaws.last_spec x c_sl with ⟨_, h2⟩ | ⟨i, h1, h2, h3⟩
  · exact absurd hat (h2 _)
  · have hle : (tl y).length ≤ i := Nat.le_of_not_lt fun q => h3 _ q hat
    have hie : i = (tl y).length := by
      refine Nat.le_antisymm (Nat.le_of_not_lt fun q => ?_) hle
      have hm := atMem h2
      have e : i = (tl y).length + (1 + (i - (tl y).length - 1)) := by omega
      rw [et, e, ← List.drop_drop, List.drop_left, ← List.drop_drop] at hm
      exact hn (List.mem_of_mem_drop hm)
    rw [h1]
    have e1 : Builtin.Str.strSub x 0 i = y := by
      apply ext_tl
      rw [tl_strSub, hie, List.drop_zero, Nat.sub_zero, et, List.take_left]
    have e2 : Builtin.Str.strSub x (i + c_sl.length) x.length = n := by
      apply ext_tl
      have hl : c_sl.length = 1 := by decide +kernel
      rw [tl_strSub_end, hie, hl, et, ← List.drop_drop, List.drop_left]; rfl
    show (Builtin.Str.strSub x 0 i, c_sl, Builtin.Str.strSub x (i + c_sl.length) x.length) = _
    rw [e1, e2]
theorem isPl_snoc {p : Str} (h : isPl p = true) : ∃ init n, parts p = init ++ [n] ∧ (∀ s ∈ init, isNm s = true) ∧ isNm n = true ∧ p = PySem.Txt.join c_sl (init ++ [n]) := by
  obtain ⟨h1, h2, _⟩ := isPl_parts h
  have hne : parts p ≠ [] := fun e => by rw [e] at h2; simp at h2
  have e := (List.dropLast_concat_getLast hne).symm
  refine ⟨(parts p).dropLast, (parts p).getLast hne, e, fun s hs => h1 s (List.dropLast_subset _ hs), h1 _ (List.getLast_mem hne), ?_⟩
  rw [← e]; exact (jp (isPl_pt h).2).symm
theorem rpPl {p : Str} (h : isPl p = true) : ∃ s, PySem.Txt.rpartition p c_sl = (par p, s, lastN p) := by
  obtain ⟨init, n, e, h1, h2, h3⟩ := isPl_snoc h
  have ep : par p = PySem.Txt.join c_sl init := by unfold par; rw [e, List.dropLast_concat]
  have en : lastN p = n := by unfold lastN; rw [e]; simp
  rw [ep, en]
  have hn : 47 ∉ tl n := isNm_sl h2
  by_cases hi : init = []
  · subst hi
    have ej : PySem.Txt.join c_sl ([] ++ [n]) = n := by
      apply ext_tl
      rw [TL.join_eq, tl_join]; rfl
    rw [h3, ej, join_nil0]
    exact ⟨_, rpOne hn⟩
  · rw [h3]
    exact ⟨_, rpMany hi hn⟩
theorem par_begs {p : Str} (h : isPl p = true) : par p = "" ∨ par p ∈ begs p := by
  obtain ⟨init, n, e, h1, h2, h3⟩ := isPl_snoc h
  have ep : par p = PySem.Txt.join c_sl init := by unfold par; rw [e, List.dropLast_concat]
  by_cases hi : init = []
  · exact Or.inl (by rw [ep, hi]; exact join_nil0)
  · refine Or.inr ?_
    have hl : 1 ≤ init.length := List.length_pos_iff.mpr hi
    unfold begs
    rw [List.mem_map]
    refine ⟨init.length - 1, ?_, ?_⟩
    · rw [List.mem_range, e, List.length_append]; simp; omega
    · rw [ep, e, show init.length - 1 + 1 = init.length by omega, List.take_left]
theorem parts_par {p : Str} (h : isPl p = true) : parts (par p) = (parts p).dropLast := by
  obtain ⟨init, n, e, h1, h2, h3⟩ := isPl_snoc h
  unfold par
  rw [e, List.dropLast_concat]
  exact parts_join h1
/-- fewer names come first -/
theorem lenLt {a b : Str} (h : (parts a).length < (parts b).length) : PySem.W.dataLt (keyD a) (keyD b) = true := by
  unfold keyD
  rw [PySem.W.dataLt_pair (by simp [PySem.W.alike]) (by simp only [PySem.W.alike]; exact alike_strs _ _), PySem.W.dataLt_int]
  have e1 : PyData.eqv (.int (parts a).length) (.int (parts b).length) = false := by
    show (((parts a).length : Int) == ((parts b).length : Int)) = _
    have h' : ¬ ((parts a).length : Int) = ((parts b).length : Int) := by omega
    simp [h']
  rw [e1, if_neg Bool.false_ne_true]
  exact decide_eq_true (by omega)
theorem memVal {es : List (Str × V)} (nd : (es.map (·.1)).Nodup) {z : Str} {v : V} (hv : valV (kv es) (.inr z) = some v) : (z, v) ∈ es := by
  by_cases hp : z ∈ es.map (·.1)
  · obtain ⟨e, he, rfl⟩ := List.mem_map.mp hp
    have := val_mem nd (p := e.1) (v := e.2) he
    rw [hv] at this
    rw [Option.some.inj this]; exact he
  · rw [val_no hp] at hv; cases hv
/-- a parent stands ahead of its path -/
theorem par_ahead {es : List (Str × V)} (ok : OkE es) {i : Nat} {p : Str} {v : V} (h : es[i]? = some (p, v)) : par p = "" ∨ (par p, V.non) ∈ es.take i := by
  have hm := List.mem_of_getElem? h
  obtain ⟨hp1, hp2⟩ : isPl p = true ∧ p.length ≤ 1000000 := ok.pl _ hm
  rcases par_begs hp1 with h0 | h0
  · exact Or.inl h0
  · refine Or.inr ?_
    have hv := ok.up _ hm _ h0
    have hm2 := memVal ok.nd hv
    obtain ⟨j, hj, hje⟩ := List.mem_iff_getElem.mp hm2
    have hi := (List.getElem?_eq_some_iff.mp h).1
    have hie : es[i] = (p, v) := (List.getElem?_eq_some_iff.mp h).2
    have hpl := parts_par hp1
    have hn : 1 ≤ (parts p).length := (isPl_parts hp1).2.1
    have hlt : (parts (par p)).length < (parts p).length := by rw [hpl, List.length_dropLast]; omega
    have hji : j < i := by
      refine Nat.lt_of_not_le fun hij => ?_
      rcases Nat.lt_or_eq_of_le hij with hij | hij
      · have := List.pairwise_iff_getElem.mp ok.le i j (by rw [List.length_map]; exact hi) (by rw [List.length_map]; exact hj) hij
        rw [List.getElem_map, List.getElem_map, hie, hje, PySem.W.dataLe_eq] at this
        have h2 : PySem.W.dataLt (keyD (par p)) (keyD p) = true := lenLt hlt
        simp only at this
        rw [h2] at this
        cases this
      · subst hij
        rw [hie] at hje
        have : par p = p := (Prod.mk.inj hje).1.symm
        rw [this] at hlt
        exact Nat.lt_irrefl _ hlt
    rw [← hje]
    exact List.mem_iff_getElem.mpr ⟨j, by rw [List.length_take]; omega, by rw [List.getElem_take]⟩
end KF

set_option Elab.async false
set_option linter.all false
set_option maxRecDepth 100000
set_option maxHeartbeats 4000000
namespace LF
open PySem PySem.Spec PyProof.Rows L2
section
variable {J : It} {n : Nat} {G : Hp → Prop} {Y : Nat → Hp → V → Hp → Prop}
theorem dcB_it (wk : Walk J n G Y) {gb : TG} {tb : TT} {tk tv : TE} {vb : List Nat} {D : Addr} {σ : L2.St} {H0 : Hp} {Out : Hp → Prop} (Pv : Nat → Hp → Prop) (start : Pv 0 H0) (stays : ∀ i H, i ≤ n → Pv i H → G H)
    (turn : ∀ i x H H', i < n → Pv i H → Y i H x H' → gb x (wipe σ vb) H' fun σ1 H2 => wipe σ1 vb = wipe σ vb ∧ tb σ1 H2 fun b H3 => if b = true then dcIn tk tv D σ1 H3 (Pv (i + 1)) else Pv (i + 1) H3) (done : ∀ H, Pv n H → Out H) :
    ∃ W : Nat → Nat → Hp → Prop, (∃ m, W 0 m H0) ∧ ∀ j k H, W j k H →
      (J.stop j H ∧ Out H) ∨ (J.go j H ∧ ∃ N : Hp → Prop, (∀ H', N H' → ∃ k', k' < k ∧ W (j + 1) k' H') ∧ ∀ x H', J.yld j H x H' → gb x (wipe σ vb) H' fun σ1 H2 => wipe σ1 vb = wipe σ vb ∧ tb σ1 H2 fun b H3 => if b = true then dcIn tk tv D σ1 H3 N else N H3) := by
  refine ⟨fun i m H => m = n - i ∧ i ≤ n ∧ Pv i H, ⟨n, by simp, Nat.zero_le _, start⟩, ?_⟩
  rintro i m H ⟨rfl, hi, p⟩
  rcases Nat.lt_or_eq_of_le hi with lt | rfl
  · exact .inr ⟨wk.goes i H lt (stays i H hi p), Pv (i + 1), fun H' p' => ⟨n - (i + 1), by omega, rfl, lt, p'⟩, fun x H' y => turn i x H H' lt p (wk.yields i H x H' lt (stays i H hi p) y)⟩
  · exact .inl ⟨wk.stops H (stays i H hi p), done H p⟩
theorem dc2_it (wk : Walk J n G Y) {ga : TG} {ta : TT} {wb : TI} {gb : TG} {tb : TT} {tk tv : TE} {va vb : List Nat} {D : Addr} {σ : L2.St} {H0 : Hp} {Out : Hp → Prop} (Pv : Nat → Hp → Prop) (start : Pv 0 (upd H0 D (.dK []))) (stays : ∀ i H, i ≤ n → Pv i H → G H)
    (turn : ∀ i x H H', i < n → Pv i H → Y i H x H' → ga x (wipe σ va) H' fun σ1 H2 => wipe σ1 va = wipe σ va ∧ ta σ1 H2 fun b H3 => if b = true then dcB wb gb tb tk tv vb D σ1 H3 (Pv (i + 1)) else Pv (i + 1) H3) (done : ∀ H, Pv n H → Out H) :
    ∃ W : Nat → Nat → Hp → Prop, (∃ m, W 0 m (upd H0 D (.dK []))) ∧ ∀ i m H, W i m H →
      (J.stop i H ∧ Out H) ∨ (J.go i H ∧ ∃ N : Hp → Prop, (∀ H', N H' → ∃ m', m' < m ∧ W (i + 1) m' H') ∧ ∀ x H', J.yld i H x H' → ga x (wipe σ va) H' fun σ1 H2 => wipe σ1 va = wipe σ va ∧ ta σ1 H2 fun b H3 => if b = true then dcB wb gb tb tk tv vb D σ1 H3 N else N H3) := by
  refine ⟨fun i m H => m = n - i ∧ i ≤ n ∧ Pv i H, ⟨n, by simp, Nat.zero_le _, start⟩, ?_⟩
  rintro i m H ⟨rfl, hi, p⟩
  rcases Nat.lt_or_eq_of_le hi with lt | rfl
  · exact .inr ⟨wk.goes i H lt (stays i H hi p), Pv (i + 1), fun H' p' => ⟨n - (i + 1), by omega, rfl, lt, p'⟩, fun x H' y => turn i x H H' lt p (wk.yields i H x H' lt (stays i H hi p) y)⟩
  · exact .inl ⟨wk.stops H (stays i H hi p), done H p⟩
end
end LF

set_option Elab.async false
set_option linter.all false
set_option maxRecDepth 100000
set_option maxHeartbeats 4000000
namespace KF
open PySem PySem.Spec PyProof.Rows L2 LF
/-! the files and plain folders among entries -/
def isRef : V → Bool
  | .str _ => true
  | _ => false
/-- the folders above a reference -/
def tornE (es : List (Str × V)) : List Str := es.flatMap fun e => if isRef e.2 = true then begs e.1 else []
def keepE (es : List (Str × V)) (e : Str × V) : Bool := !isRef e.2 && !decide (e.1 ∈ tornE es)
def solidE (es : List (Str × V)) : List (Str × V) := es.filter (keepE es)
theorem plain_str {K : PySem.W.Frag} {H : Hp} {x : V} (h : Plain x) : ∃ t b, TyX K H x t ∧ PySem.W.kitOne K t (.type "str") = some b ∧ b = isRef x := by
  rcases h with rfl | ⟨i, rfl⟩ | ⟨z, rfl, hz⟩
  · exact ⟨_, _, .base .non, kit_no (t := "NoneType") (by simp [notStr]), rfl⟩
  · exact ⟨_, _, .base (.int i), kit_no (t := "int") (by simp [notStr]), rfl⟩
  · exact ⟨_, _, .base (.str z), kit_str, rfl⟩
theorem begs_num (p : Str) : (begs p).length = (parts p).length - 1 := by unfold begs; rw [List.length_map, List.length_range]
theorem valPut {kvs : List (Key × V)} {k q : Key} {v : V} : (valV (putK kvs k v) q).isSome = ((valV kvs q).isSome || decide (q = k)) := by
  by_cases h : q = k
  · rw [valV_put, if_pos h, decide_eq_true h, Bool.or_true]; rfl
  · rw [valV_put, if_neg h, decide_eq_false h, Bool.or_false]
def spSolid : Sp := fun vs H Q _ => ∃ (d : Addr) (es : List (Str × V)), vs = [.ref d] ∧ H d = some (.dK (kv es)) ∧ OkE es ∧ es.length ≤ 1000 ∧ ∀ H' p, Same H H' → H p = none → H' p = some (.dK (kv (solidE es))) → Q (.ref p) H'
abbrev s_solid_entries : Stmt := topS 48
abbrev N_solid_entries : List Str := ["entries", "torn", "path", "place"]
theorem sc_solid_entries : FnScope ["entries", "torn", "path", "place"] ["entries"] (defScope s_solid_entries) := ⟨rfl, rfl, rfl, by decide +kernel, rfl, by decide +kernel, by decide +kernel⟩
section
variable {P : Program} {w : World} {K : PySem.W.Frag} {mg : Str → Option Value} {base : Heap} {tk1 tk2 : Tok}
theorem filt_next {es : List (Str × V)} {g : Str × V → Bool} {i : Nat} {e : Str × V} (h : es[i]? = some e) : (es.take (i + 1)).filter g = (es.take i).filter g ++ (if g e = true then [e] else []) := by
  rw [List.take_add_one, h, List.filter_append]
  congr 1
  cases hg : g e <;> simp [hg]
theorem put_filt {es : List (Str × V)} {g : Str × V → Bool} {i : Nat} {p : Str} {v : V} (nd : (es.map (·.1)).Nodup) (h : es[i]? = some (p, v)) : putK (kv ((es.take i).filter g)) (.inr p) v = kv ((es.take i).filter g ++ [(p, v)]) := by
  have hno : p ∉ ((es.take i).filter g).map (·.1) := by
    intro hm
    obtain ⟨q, hq, hqp⟩ := List.mem_map.mp hm
    obtain ⟨j, hj, hjq⟩ := List.mem_iff_getElem.mp (List.mem_filter.mp hq).1
    rw [List.length_take] at hj
    have hil := (List.getElem?_eq_some_iff.mp h).1
    rw [List.getElem_take] at hjq
    have h1 : (es.map (·.1))[j]'(by rw [List.length_map]; omega) = p := by rw [List.getElem_map, hjq, hqp]
    have h2 : (es.map (·.1))[i]'(by rw [List.length_map]; exact hil) = p := by rw [List.getElem_map, (List.getElem?_eq_some_iff.mp h).2]
    exact List.pairwise_iff_getElem.mp nd j i (by rw [List.length_map]; omega) (by rw [List.length_map]; exact hil) (by omega) (h1.trans h2.symm)
  rw [putK_new _ (val_no hno)]
  unfold kv
  rw [List.map_append]; rfl
theorem ok_solid {f f1 : Addr} {fd fd1 : FuncData} (F : Fun K "solid_entries" "solid_entries" s_solid_entries f fd) (T : Txt K mg tk1 tk2)
    (d_beg : DefAt P w K mg base "beginnings" 2 f1 fd1 ["path"] spBeg) : FnOk P w K mg base CX0 3 f fd ["entries"] spSolid := by
  refine F.ok sc_solid_entries (fun vs H Q E h => ?_) (fun cdv A outer s H vs Q E hr h => ?_)
  · obtain ⟨d, es, rfl, _⟩ := h
    rfl
  have hu1 := hu_of hr
  refine ⟨_, (pss_cons (ps_set (i := 1) sc_solid_entries.nd rfl (Or.inr rfl) (pe_lock (pe_dc2 (own := [("path", 2), ("place", 3)]) (vb := [3]) rfl sc_solid_entries.nd (pi_keys (pv 0)) (blkOk_by (N := N_solid_entries) (sc := defScope s_solid_entries) (by decide +kernel)) (by decide)
      (fun _ _ _ _ _ => pg_name (i := 2) sc_solid_entries.nd rfl (Or.inl rfl))
      (fun _ _ _ _ _ => pts_one (pt_val (pe_callB (show CallR _ (.builtin "isinstance") (rIsi K) from call_isi) (by rfl) T.n_isinstance (by decide +kernel) (pa_cons (pe_dget hu1 (pv 0) (pv 2) (fun _ _ => rfl)) (pa_cons (pe_bltn (v := .ty "str") (by rfl) T.n_str (by decide +kernel) rfl) pa_nil)))))
      (fun _ _ _ _ _ => (show PI _ _ _ (iList K _) from pi_list (pe_callD d_beg (hr.mono (by decide)) (pa_cons (pv 2) pa_nil)))) (fun _ _ _ _ _ => pg_name (i := 3) sc_solid_entries.nd rfl (Or.inl rfl)) (fun _ _ _ _ _ => pts_nil) (fun _ _ _ _ _ => pv 3) (fun _ _ _ _ _ => pe_bl))))
    (pss_one (ps_ret (pe_lock (pe_dc (own := [("path", 2)]) rfl sc_solid_entries.nd (pi_keys (pv 0)) (blkOk_by (N := N_solid_entries) (sc := defScope s_solid_entries) (by decide +kernel)) (fun _ _ _ _ _ => pg_name (i := 2) sc_solid_entries.nd rfl (Or.inl rfl))
      (fun _ _ _ _ _ => pts_one (PW.pt (pw_and (pt_not (pt_val (pe_callB (show CallR _ (.builtin "isinstance") (rIsi K) from call_isi) (by rfl) T.n_isinstance (by decide +kernel) (pa_cons (pe_dget hu1 (pv 0) (pv 2) (fun _ _ => rfl)) (pa_cons (pe_bltn (v := .ty "str") (by rfl) T.n_str (by decide +kernel) rfl) pa_nil))))) (pw_and1 (pt_cmp (pc_dnotin hu1 (pv 2) (pv 1)))))))
      (fun _ _ _ _ _ => pv 2) (fun _ _ _ _ _ => pe_dget hu1 (pv 0) (pv 2) (fun _ _ => rfl))))))), ?_⟩
  obtain ⟨d, es, rfl, hd, ok, hlen, hq⟩ := h
  have hbig := sizeLine_big
  have hkl : (kv es).length = es.length := by unfold kv; rw [List.length_map]
  refine ⟨d, _, hd, True.intro, fun od => ?_⟩
  refine ⟨_, rfl, d, od, rfl, Or.inl ⟨kv es, upd_same, fun D hD => ?_⟩⟩
  have hl0 : (upd H d (.frz od (.dK (kv es)))) d = some (.frz od (.dK (kv es))) := upd_same
  have hs0 : ∀ H', Same (upd H d (.frz od (.dK (kv es)))) H' → Same H (upd H' d (.dK (kv es))) := fun H' s' => same_unlock hd s'
  generalize (upd H d (.frz od (.dK (kv es)))) = L at hl0 hs0 hD
  have nDd : D ≠ d := Ne.symm (ne_of_none hl0 hD)
  refine dc2_it walk_keys (fun i H' => Same L H' ∧ ∃ ts : List (Key × V), H' D = some (.dK ts) ∧ ts.length ≤ 10 * i ∧ ∀ q, (valV ts (.inr q)).isSome = decide (q ∈ tornE (es.take i))) ⟨same_new hD, [], upd_same, Nat.le_refl _, fun q => rfl⟩ (fun i H' _ h => h.1 _ _ hl0) ?_ ?_
  · rintro i x H1 H2 hi ⟨sm, ts, hts, htl, htv⟩ ⟨rfl, k, v, hk, rfl⟩
    obtain ⟨p, rfl, hie, hm⟩ := kv_get hk
    obtain ⟨hp1, hp2⟩ : isPl p = true ∧ p.length ≤ 1000000 := ok.pl _ hm
    obtain ⟨hi1, hi2⟩ := ok.it _ hm
    have hv := val_mem ok.nd hm
    have etake : tornE (es.take (i + 1)) = tornE (es.take i) ++ (if isRef v = true then begs p else []) := by
      rw [List.take_add_one, hie]; unfold tornE; rw [List.flatMap_append]; simp
    obtain ⟨t, b, ty, hkit, hb⟩ := plain_str (K := K) (H := H2) hi1
    refine ⟨rfl, _, rfl, _, rfl, d, v, rfl, .inl ⟨kv es, .inr p, .inr ⟨od, sm _ _ hl0⟩, rfl, hv.symm⟩, v, .ty "str", _, _, b, rfl, .ty _, ty, hkit, b, rfl, ?_⟩
    subst hb
    cases hr0 : isRef v with
    | false =>
      refine iteF ⟨sm, ts, hts, by omega, fun q => ?_⟩
      rw [htv q, etake, hr0, if_neg Bool.false_ne_true, List.append_nil]
    | true =>
      refine iteT ⟨_, rfl, p, rfl, hp2, hp1, fun H3 bl s3 nb hb => ⟨bl, rfl, ⟨_, SqL.of hb⟩, ?_⟩⟩
      have hlb : (begs p).length ≤ 9 := by rw [begs_num]; have := (isPl_parts hp1).2.2; omega
      have hi9 : i < 1000 := by omega
      refine dcB_it (walk_list (xs := (begs p).map V.str)) (fun j H' => Same H3 (upd H' D (.dK ts)) ∧ ∃ us : List (Key × V), H' D = some (.dK us) ∧ us.length ≤ 10 * i + j ∧ ∀ q, (valV us (.inr q)).isSome = decide (q ∈ tornE (es.take i) ++ (begs p).take j)) ⟨?_, ts, s3 _ _ hts, by omega, fun q => by rw [htv q, List.take_zero, List.append_nil]⟩ ?_ ?_ ?_
      · intro a o e
        by_cases ha : a = D
        · subst ha; rw [upd_same, ← e, s3 _ _ hts]
        · rw [upd_ne ha]; exact e
      · rintro j H' _ ⟨s4, us, hus, _⟩
        have nbD : bl ≠ D := fun e => by subst e; rw [s3 _ _ hts] at hb; cases hb
        have := s4 _ _ hb
        rw [upd_ne nbD] at this
        exact SqL.of this
      · rintro j x H4 H5 hj ⟨s4, us, hus, hul, huv⟩ ⟨rfl, hx⟩
        rw [List.length_map] at hj
        rw [List.getElem?_map, List.getElem?_eq_getElem hj] at hx
        obtain rfl := (Option.some.inj hx).symm
        refine ⟨rfl, _, rfl, us, .inr ((begs p)[j]), rfl, hus, by omega, ?_, _, upd_same, ?_, fun q => ?_⟩
        · rw [upd_upd]; exact s4
        · have := length_putK us (.inr ((begs p)[j])) (.bl true); omega
        · rw [valPut, huv q, List.take_add_one, List.getElem?_eq_getElem hj]
          have e1 : decide ((Sum.inr q : Key) = Sum.inr ((begs p)[j])) = decide (q = (begs p)[j]) := key_rr _ _
          rw [e1, ← List.append_assoc]
          show _ = decide (q ∈ (tornE (es.take i) ++ (begs p).take j) ++ [(begs p)[j]])
          by_cases h1 : q ∈ tornE (es.take i) ++ (begs p).take j
          · rw [decide_eq_true h1, decide_eq_true (List.mem_append_left _ h1)]; rfl
          · by_cases h2 : q = (begs p)[j]
            · have h3 : q ∈ (tornE (es.take i) ++ (begs p).take j) ++ [(begs p)[j]] := List.mem_append.mpr (Or.inr (List.mem_singleton.mpr h2))
              rw [decide_eq_true h2, decide_eq_true h3, Bool.or_true]
            · rw [decide_eq_false h1, decide_eq_false h2, decide_eq_false (fun h => (List.mem_append.mp h).elim h1 fun h => h2 (List.mem_singleton.mp h))]; rfl
      · rintro H4 ⟨s4, us, hus, hul, huv⟩
        rw [List.length_map] at huv hul
        refine ⟨?_, us, hus, by omega, fun q => ?_⟩
        · intro a o e
          have na : a ≠ D := fun ea => by subst ea; rw [hD] at e; cases e
          have := s4 _ _ (s3 _ _ (sm _ _ e))
          rw [upd_ne na] at this; exact this
        · rw [huv q, etake, hr0, if_pos rfl, List.take_length]
  rintro H1 ⟨sm, ts, hts, htl, htv⟩
  rw [hkl, List.take_length] at htv
  refine ⟨sm _ _ hl0, ?_⟩
  have S1 := hs0 _ sm
  have hts1 : (upd H1 d (.dK (kv es))) D = some (.dK ts) := by rw [upd_ne nDd]; exact hts
  generalize (upd H1 d (.dK (kv es))) = G1 at S1 hts1
  have hdG := S1 _ _ hd
  -- the second one
  refine ⟨d, _, hdG, True.intro, fun od2 => ?_⟩
  refine ⟨_, rfl, d, od2, rfl, Or.inl ⟨kv es, upd_same, fun D2 hD2 => ?_⟩⟩
  have hl2 : (upd G1 d (.frz od2 (.dK (kv es)))) d = some (.frz od2 (.dK (kv es))) := upd_same
  have hs2 : ∀ H', Same (upd G1 d (.frz od2 (.dK (kv es)))) H' → Same G1 (upd H' d (.dK (kv es))) := fun H' s' => same_unlock hdG s'
  have hts2 : (upd G1 d (.frz od2 (.dK (kv es)))) D = some (.dK ts) := by rw [upd_ne nDd]; exact hts1
  have hfr : G1 D2 = none := by
    by_cases e : D2 = d
    · subst e; rw [hl2] at hD2; cases hD2
    · rw [upd_ne e] at hD2; exact hD2
  generalize (upd G1 d (.frz od2 (.dK (kv es)))) = L2' at hl2 hs2 hD2 hts2
  have nD2 : D2 ≠ d := Ne.symm (ne_of_none hl2 hD2)
  refine dc_it walk_keys (fun i H' => Same L2' H' ∧ H' D2 = some (.dK (kv ((es.take i).filter (keepE es))))) ⟨same_new hD2, upd_same⟩ (fun i H' _ h => h.1 _ _ hl2) ?_ ?_
  · rintro i x H1 H2 hi ⟨sm, hd2⟩ ⟨rfl, k, v, hk, rfl⟩
    obtain ⟨p, rfl, hie, hm⟩ := kv_get hk
    obtain ⟨hi1, hi2⟩ := ok.it _ hm
    have hv := val_mem ok.nd hm
    obtain ⟨t, b, ty, hkit, hb⟩ := plain_str (K := K) (H := H2) hi1
    have hds := sm _ _ hl2
    have step := filt_next (g := keepE es) hie
    have hfl : (kv ((es.take i).filter (keepE es))).length ≤ es.length := by
      unfold kv; rw [List.length_map]
      exact Nat.le_trans (List.length_filter_le _ _) (by rw [List.length_take]; omega)
    refine ⟨rfl, _, rfl, _, rfl, d, v, rfl, .inl ⟨kv es, .inr p, .inr ⟨od2, hds⟩, rfl, hv.symm⟩, v, .ty "str", _, _, b, rfl, .ty _, ty, hkit, b, rfl, ?_⟩
    subst hb
    cases hr0 : isRef v with
    | true =>
      have hk0 : keepE es (p, v) = false := by unfold keepE; rw [hr0]; rfl
      rw [hk0, if_neg Bool.false_ne_true, List.append_nil] at step
      refine iteF (iteF ⟨sm, ?_⟩)
      rw [step]; exact hd2
    | false =>
      refine iteT ⟨_, rfl, _, rfl, D, _, rfl, DGet.k (k := Sum.inr p) (sm _ _ hts2), _, rfl, ?_⟩
      have hk0 : keepE es (p, v) = !decide (p ∈ tornE es) := by unfold keepE; rw [hr0]; rfl
      rw [htv p, ← hk0]
      cases hk1 : keepE es (p, v) with
      | false =>
        rw [hk1, if_neg Bool.false_ne_true, List.append_nil] at step
        refine iteF ⟨sm, ?_⟩
        rw [step]; exact hd2
      | true =>
        rw [hk1, if_pos rfl] at step
        refine iteT ⟨_, rfl, _, rfl, _, rfl, d, v, rfl, .inl ⟨kv es, .inr p, .inr ⟨od2, hds⟩, rfl, hv.symm⟩, _, .inr p, rfl, hd2, by omega, same_upd hD2 sm, ?_⟩
        rw [upd_same, put_filt ok.nd hie, step]
  · rintro H1 ⟨sm, hd2⟩
    rw [hkl, List.take_length] at hd2
    refine ⟨sm _ _ hl2, ?_⟩
    have S2 := hs2 _ sm
    exact hq _ D2 (S1.trans S2) (S1.free hfr) (by rw [upd_ne nD2]; exact hd2)
end
end KF

set_option Elab.async false
set_option linter.all false
set_option maxRecDepth 100000
set_option maxHeartbeats 4000000
namespace KF
open PySem PySem.Spec PyProof.Rows L2 LF
/-! the names directly in each folder -/
abbrev Room3 := Str × Addr × List Str
def rkv (rs : List Room3) : List (Key × V) := rs.map fun r => (.inr r.1, .ref r.2.1)
/-- rooms laid at r: a dict of lists -/
structure Rooms (H : Hp) (r : Addr) (rs : List Room3) : Prop where
  d : H r = some (.dK (rkv rs))
  l : ∀ x ∈ rs, H x.2.1 = some (.lst (x.2.2.map V.str))
theorem Rooms.same {H H' : Hp} {r : Addr} {rs : List Room3} (h : Rooms H r rs) (s : Same H H') : Rooms H' r rs := ⟨s _ _ h.d, fun x hx => s _ _ (h.l x hx)⟩
def bare3 (rs : List Room3) : List (Str × List Str) := rs.map fun r => (r.1, r.2.2)
def roomStep (rs : List (Str × List Str)) (e : Str × V) : List (Str × List Str) := (rs.map fun r => if r.1 = par e.1 then (r.1, r.2 ++ [lastN e.1]) else r) ++ (if e.2 = .non then [(e.1, [])] else [])
def roomsE (es : List (Str × V)) : List (Str × List Str) := es.foldl roomStep [("", [])]
theorem roomsE_next {es : List (Str × V)} {i : Nat} {e : Str × V} (h : es[i]? = some e) : roomsE (es.take (i + 1)) = roomStep (roomsE (es.take i)) e := by
  unfold roomsE
  rw [List.take_add_one, h, List.foldl_append]; rfl
theorem room_keys (es : List (Str × V)) : (roomsE es).map (·.1) = (Str.ofString "") :: (es.filter fun e => decide (e.2 = .non)).map (·.1) := by
  have gen : ∀ (es : List (Str × V)) (rs : List (Str × List Str)), (es.foldl roomStep rs).map (·.1) = rs.map (·.1) ++ (es.filter fun e => decide (e.2 = .non)).map (·.1) := by
    intro es
    induction es with
    | nil => intro rs; simp
    | cons e l ih =>
      intro rs
      rw [List.foldl_cons, ih]
      have e1 : (roomStep rs e).map (·.1) = rs.map (·.1) ++ (if e.2 = .non then [e.1] else []) := by
        unfold roomStep
        rw [List.map_append, List.map_map]
        congr 1
        · refine List.map_congr_left fun r _ => ?_
          show (if r.1 = par e.1 then (r.1, r.2 ++ [lastN e.1]) else r).1 = r.1
          split <;> rfl
        · split <;> rfl
      rw [e1, List.filter_cons]
      by_cases h : e.2 = .non
      · rw [if_pos h, if_pos (decide_eq_true h)]; simp
      · rw [if_neg h, if_neg (by rw [decide_eq_false h]; exact Bool.false_ne_true)]; simp
  exact gen es _
theorem room_nd {es : List (Str × V)} (ok : OkE es) (i : Nat) : ((roomsE (es.take i)).map (·.1)).Nodup := by
  rw [room_keys, List.nodup_cons]
  constructor
  · intro h
    obtain ⟨e, he, h0⟩ := List.mem_map.mp h
    have hm := List.mem_of_mem_take (List.mem_filter.mp he).1
    exact (isPl_pt (ok.pl e hm).1).2 h0
  · have h1 : ((es.take i).map (·.1)).Nodup := by rw [List.map_take]; exact ok.nd.sublist (List.take_sublist _ _)
    exact h1.sublist (List.filter_sublist.map _)
theorem val_rkv {rs : List Room3} (nd : (rs.map (·.1)).Nodup) {x : Room3} (h : x ∈ rs) : valV (rkv rs) (.inr x.1) = some (.ref x.2.1) := by
  have := val_mem (es := rs.map fun r => (r.1, V.ref r.2.1)) (p := x.1) (v := .ref x.2.1) (by rw [List.map_map]; exact nd) (List.mem_map.mpr ⟨x, h, rfl⟩)
  unfold kv at this
  rw [List.map_map] at this
  exact this
theorem val_rkv_no {rs : List Room3} {p : Str} (h : p ∉ rs.map (·.1)) : valV (rkv rs) (.inr p) = none := by
  have := val_no (es := rs.map fun r => (r.1, V.ref r.2.1)) (p := p) (by rw [List.map_map]; exact h)
  unfold kv at this
  rw [List.map_map] at this
  exact this
/-- a name put behind those of one folder -/
def addRoom (rs : List Room3) (f n : Str) : List Room3 := rs.map fun r => if r.1 = f then (r.1, r.2.1, r.2.2 ++ [n]) else r
theorem addRoom_kv (rs : List Room3) (f n : Str) : rkv (addRoom rs f n) = rkv rs := by
  unfold rkv addRoom
  rw [List.map_map]
  refine List.map_congr_left fun r _ => ?_
  show (Sum.inr (if r.1 = f then (r.1, r.2.1, r.2.2 ++ [n]) else r).1, V.ref (if r.1 = f then (r.1, r.2.1, r.2.2 ++ [n]) else r).2.1) = _
  split <;> rfl
theorem addRoom_ad (rs : List Room3) (f n : Str) : (addRoom rs f n).map (·.2.1) = rs.map (·.2.1) := by
  unfold addRoom
  rw [List.map_map]
  refine List.map_congr_left fun r _ => ?_
  show (if r.1 = f then (r.1, r.2.1, r.2.2 ++ [n]) else r).2.1 = _
  split <;> rfl
theorem addRoom_bare (rs : List Room3) (f n : Str) : bare3 (addRoom rs f n) = (bare3 rs).map fun r => if r.1 = f then (r.1, r.2 ++ [n]) else r := by
  unfold bare3 addRoom
  rw [List.map_map, List.map_map]
  refine List.map_congr_left fun r _ => ?_
  show ((if r.1 = f then (r.1, r.2.1, r.2.2 ++ [n]) else r).1, (if r.1 = f then (r.1, r.2.1, r.2.2 ++ [n]) else r).2.2) = (if r.1 = f then (r.1, r.2.2 ++ [n]) else (r.1, r.2.2))
  split <;> rfl
theorem nd_inj {α β : Type} {f : α → β} {l : List α} (nd : (l.map f).Nodup) {a b : α} (ha : a ∈ l) (hb : b ∈ l) (h : f a = f b) : a = b := by
  induction l with
  | nil => cases ha
  | cons x l ih =>
    rw [List.map_cons, List.nodup_cons] at nd
    rcases List.mem_cons.mp ha with rfl | ha
    · rcases List.mem_cons.mp hb with rfl | hb
      · rfl
      · exact absurd (List.mem_map.mpr ⟨b, hb, h.symm⟩) nd.1
    · rcases List.mem_cons.mp hb with rfl | hb
      · exact absurd (List.mem_map.mpr ⟨a, (by assumption), h⟩) nd.1
      · exact ih nd.2 ha hb
theorem Rooms.add {H : Hp} {r : Addr} {rs : List Room3} (h : Rooms H r rs) (nk : (rs.map (·.1)).Nodup) (na : (rs.map (·.2.1)).Nodup) {x : Room3} (hx : x ∈ rs) (n : Str) :
    Rooms (upd H x.2.1 (.lst (x.2.2.map V.str ++ [.str n]))) r (addRoom rs x.1 n) := by
  have nr : r ≠ x.2.1 := ne_of h.d (h.l x hx) (by intro z; cases z)
  refine ⟨by rw [upd_ne nr, addRoom_kv]; exact h.d, fun y hy => ?_⟩
  obtain ⟨z, hz, rfl⟩ := List.mem_map.mp hy
  by_cases hzx : z.1 = x.1
  · obtain rfl := nd_inj nk hz hx hzx
    rw [if_pos rfl]
    show upd H z.2.1 _ z.2.1 = some (.lst ((z.2.2 ++ [n]).map V.str))
    rw [upd_same, List.map_append]; rfl
  · rw [if_neg hzx]
    have : z.2.1 ≠ x.2.1 := fun e => hzx (by rw [nd_inj na hz hx e])
    rw [upd_ne this]
    exact h.l z hz
def spWithin : Sp := fun vs H Q _ => ∃ (d : Addr) (es : List (Str × V)), vs = [.ref d] ∧ H d = some (.dK (kv es)) ∧ OkE es ∧ es.length ≤ 1000 ∧ ∀ H' p rs, Same H H' → H p = none → Rooms H' p rs → bare3 rs = roomsE es → Q (.ref p) H'
abbrev s_names_within : Stmt := topS 49
abbrev N_names_within : List Str := ["entries", "rooms", "path", "folder", "slash", "name"]
theorem sc_names_within : FnScope ["entries", "rooms", "path", "folder", "slash", "name"] ["entries"] (defScope s_names_within) := ⟨rfl, rfl, rfl, by decide +kernel, rfl, by decide +kernel, by decide +kernel⟩
section
variable {P : Program} {w : World} {K : PySem.W.Frag} {mg : Str → Option Value} {base : Heap} {tk1 tk2 : Tok}
theorem room_len (es : List (Str × V)) : (roomsE es).length ≤ es.length + 1 := by
  have h := congrArg List.length (room_keys es)
  rw [List.length_map, List.length_cons, List.length_map] at h
  have := List.length_filter_le (fun e : Str × V => decide (e.2 = .non)) es
  omega
theorem room_size : ∀ (es : List (Str × V)), ∀ r ∈ roomsE es, r.2.length ≤ es.length := by
  have gen : ∀ (es : List (Str × V)) (rs : List (Str × List Str)) (n : Nat), (∀ r ∈ rs, r.2.length ≤ n) → ∀ r ∈ es.foldl roomStep rs, r.2.length ≤ n + es.length := by
    intro es
    induction es with
    | nil => intro rs n h r hr; exact h r hr
    | cons e l ih =>
      intro rs n h r hr
      rw [List.foldl_cons] at hr
      have := ih (roomStep rs e) (n + 1) (fun q hq => ?_) r hr
      · rw [List.length_cons]; omega
      · unfold roomStep at hq
        rcases List.mem_append.mp hq with hq | hq
        · obtain ⟨y, hy, rfl⟩ := List.mem_map.mp hq
          have hy2 := h y hy
          split
          · show (y.2 ++ [lastN e.1]).length ≤ n + 1
            rw [List.length_append]; simp; omega
          · omega
        · split at hq
          · obtain rfl := List.mem_singleton.mp hq; exact Nat.zero_le _
          · cases hq
  intro es r hr
  have := gen es [("", [])] 0 (fun q hq => by obtain rfl := List.mem_singleton.mp hq; exact Nat.le_refl _) r hr
  omega
theorem ok_within {f : Addr} {fd : FuncData} (F : Fun K "names_within" "names_within" s_names_within f fd) (T : Txt K mg tk1 tk2) : FnOk P w K mg base CX0 1 f fd ["entries"] spWithin := by
  refine F.ok sc_names_within (fun vs H Q E h => ?_) (fun cdv A outer s H vs Q E hr h => ?_)
  · obtain ⟨d, es, rfl, _⟩ := h
    rfl
  have hu1 := hu_of hr
  refine ⟨_, (pss_cons (ps_set (i := 1) sc_names_within.nd rfl (Or.inl rfl) (pe_disp (pps_cons pe_str (pe_lst pa_nil) pps_nil) rfl rfl (fun h => nomatch h) (by decide)))
    (pss_cons (ps_lock (ps_for PassesOwn.never rfl (pi_keys (pv 0)) (pg_name (i := 2) sc_names_within.nd rfl (Or.inl rfl)) (pss_cons (ps_asg (pe_rpartition (pv 2) pe_str) (pg_tup (by rfl) (pgs_cons (pg_name (i := 3) sc_names_within.nd rfl (Or.inl rfl)) (pgs_cons (pg_name (i := 4) sc_names_within.nd rfl (Or.inl rfl)) (pgs_cons (pg_name (i := 5) sc_names_within.nd rfl (Or.inl rfl)) pgs_nil)))))
    (pss_cons (ps_expr (pe_bm PySem.F.plainAttrs_list PySem.F.slot_list_append PySem.F.type_list_append mt_append (pe_dget hu1 (pv 1) (pv 3) (fun _ _ => rfl)) (pa_cons (pv 5) pa_nil)))
    (pss_one (ps_if (pt_cmpR op_isN (pe_dget hu1 (pv 0) (pv 2) (fun _ _ => rfl)) pe_non (nomark _)) (pss_one (ps_dput hu1 (pv 1) (pv 2) (pe_lst pa_nil) rfl)) pss_nil))))))
    (pss_one (ps_ret (pv 1))))), ?_⟩
  obtain ⟨d, es, rfl, hd, ok, hlen, hq⟩ := h
  have hbig := sizeLine_big
  have hkl : (kv es).length = es.length := by unfold kv; rw [List.length_map]
  intro p hp
  refine ⟨Nat.zero_le _, fun l hl => ?_⟩
  have npl : p ≠ l := ne_of_none upd_same hl
  have hl0 : H l = none := by rw [upd_ne npl.symm] at hl; exact hl
  refine ⟨by rw [upd_ne npl, upd_same], [(.inr "", .ref l)], rfl, (by show 1 ≤ 15; decide), ?_⟩
  have npd : d ≠ p := ne_of_none hd hp
  have nld : d ≠ l := ne_of_none hd hl0
  -- the rooms at first
  generalize eG : upd (upd (upd H p (.dK [])) l (.lst [])) p (.dK (mergeK [] [(.inr "", .ref l)])) = G
  have sG : Same H G := by
    intro a o e
    rw [← eG, upd_ne (ne_of_none e hp), upd_ne (ne_of_none e hl0), upd_ne (ne_of_none e hp)]; exact e
  have rG : Rooms G p [((Str.ofString ""), l, [])] := by
    refine ⟨by rw [← eG, upd_same]; rfl, fun x hx => ?_⟩
    obtain rfl := List.mem_singleton.mp hx
    rw [← eG, upd_ne npl.symm, upd_same]; rfl
  have hdG := sG _ _ hd
  refine ⟨d, _, hdG, True.intro, fun od => ?_⟩
  refine ⟨_, rfl, d, od, rfl, Or.inl ⟨kv es, upd_same, ?_⟩⟩
  have hs0 : ∀ H', Same (upd H d (.frz od (.dK (kv es)))) H' → Same H (upd H' d (.dK (kv es))) := fun H' s' => same_unlock hd s'
  have hlk : (upd H d (.frz od (.dK (kv es)))) d = some (.frz od (.dK (kv es))) := upd_same
  have fr0 : ∀ a, H a = none → (upd H d (.frz od (.dK (kv es)))) a = none := fun a e => by rw [upd_ne (Ne.symm (ne_of_none hd e))]; exact e
  have sL : Same (upd H d (.frz od (.dK (kv es)))) (upd G d (.frz od (.dK (kv es)))) := by
    intro a o e
    by_cases ha : a = d
    · subst ha; rw [upd_same] at e ⊢; exact e
    · rw [upd_ne ha] at e ⊢; exact sG _ _ e
  have rL : Rooms (upd G d (.frz od (.dK (kv es)))) p [((Str.ofString ""), l, [])] := by
    refine ⟨by rw [upd_ne npd.symm]; exact rG.d, fun x hx => ?_⟩
    have := rG.l x hx
    obtain rfl := List.mem_singleton.mp hx
    rw [upd_ne nld.symm]; exact this
  generalize (upd G d (.frz od (.dK (kv es)))) = G1 at sL rL
  generalize eL : (upd H d (.frz od (.dK (kv es)))) = L at hs0 hlk fr0 sL
  refine for_it walk_keys (fun i σ H' => ∃ (rs : List Room3) (v2 v3 v4 v5 : Option V), σ = [some (.ref d), some (.ref p), v2, v3, v4, v5] ∧ Same L H' ∧ Rooms H' p rs ∧ bare3 rs = roomsE (es.take i) ∧ (rs.map (·.2.1)).Nodup ∧ ∀ x ∈ rs, H x.2.1 = none)
    ⟨_, none, none, none, none, rfl, sL, rL, rfl, by simp, fun x hx => by obtain rfl := List.mem_singleton.mp hx; exact hl0⟩ (fun i σ H' _ ⟨_, _, _, _, _, _, sm, _⟩ => sm _ _ hlk) ?_ ?_
  · rintro i x σ H1 H2 hi ⟨rs, v2, v3, v4, v5, rfl, sm, rm, br, na, fr⟩ ⟨rfl, k, v, hk, rfl⟩
    obtain ⟨pth, rfl, hie, hm⟩ := kv_get hk
    obtain ⟨hp1, hp2⟩ : isPl pth = true ∧ pth.length ≤ 1000000 := ok.pl _ hm
    have hv := val_mem ok.nd hm
    have hkeys : rs.map (·.1) = (roomsE (es.take i)).map (·.1) := by rw [← br]; unfold bare3; rw [List.map_map]; rfl
    have nk : (rs.map (·.1)).Nodup := by rw [hkeys]; exact room_nd ok i
    have hln : rs.length ≤ es.length + 1 := by
      have h1 := congrArg List.length hkeys
      rw [List.length_map, List.length_map] at h1
      have h2 := room_len (es.take i)
      rw [List.length_take] at h2; omega
    -- the parent's list
    have hpar : par pth ∈ rs.map (·.1) := by
      rw [hkeys, room_keys]
      rcases par_ahead ok hie with h0 | h0
      · rw [h0]; exact List.mem_cons_self
      · exact List.mem_cons_of_mem _ (List.mem_map.mpr ⟨_, List.mem_filter.mpr ⟨h0, decide_eq_true rfl⟩, rfl⟩)
    obtain ⟨rm3, hx3, hpe⟩ := List.mem_map.mp hpar
    obtain ⟨s0, hrp⟩ := rpPl hp1
    refine ⟨_, rfl, ⟨_, rfl⟩, pth, c_sl, rfl, rfl, sl_ne, by omega, fun t ht => ?_⟩
    rw [hrp]
    refine ⟨t, _, rfl, SqT.of upd_same, rfl, _, _, rfl, _, _, rfl, _, _, rfl, rfl, ?_⟩
    have smt : Same H2 (upd H2 t (.tup [.str (par pth), .str s0, .str (lastN pth)])) := same_new ht
    have rmt := rm.same smt
    have sm1 := sm.trans smt
    generalize (upd H2 t (.tup [.str (par pth), .str s0, .str (lastN pth)])) = H3 at smt rmt sm1
    have hvr : valV (rkv rs) (.inr (par pth)) = some (.ref rm3.2.1) := by rw [← hpe]; exact val_rkv nk hx3
    have hlst := rmt.l _ hx3
    have nm_len : rm3.2.2.length ≤ 1000 := by
      have h1 : (rm3.1, rm3.2.2) ∈ roomsE (es.take i) := by rw [← br]; exact List.mem_map.mpr ⟨rm3, hx3, rfl⟩
      have : rm3.2.2.length ≤ (es.take i).length := room_size _ _ h1
      rw [List.length_take] at this
      omega
    refine ⟨_, rfl, _, rfl, p, .ref rm3.2.1, rfl, by have := DGet.k (k := Sum.inr (par pth)) rmt.d; rw [hvr] at this; exact this, .inl ⟨rfl, _, SqL.of hlst⟩, _, rfl, rm3.2.1, _, _, rfl, rfl, hlst, by rw [List.length_map]; omega, ?_⟩
    have rma := rmt.add nk na hx3 (lastN pth)
    have sma : Same L (upd H3 rm3.2.1 (.lst (rm3.2.2.map V.str ++ [.str (lastN pth)]))) := same_upd (fr0 _ (fr _ hx3)) sm1
    generalize (upd H3 rm3.2.1 (.lst (rm3.2.2.map V.str ++ [.str (lastN pth)]))) = H4 at rma sma
    have bra : bare3 (addRoom rs (par pth) (lastN pth)) = (roomsE (es.take i)).map fun r => if r.1 = par pth then (r.1, r.2 ++ [lastN pth]) else r := by rw [addRoom_bare, br]
    rw [hpe] at rma
    have naa : ((addRoom rs (par pth) (lastN pth)).map (·.2.1)).Nodup := by rw [addRoom_ad]; exact na
    have fra : ∀ x ∈ addRoom rs (par pth) (lastN pth), H x.2.1 = none := fun x hx => by
      obtain ⟨y, hy, rfl⟩ := List.mem_map.mp hx
      have := fr y hy
      split <;> exact this
    refine ⟨_, rfl, _, rfl, d, v, rfl, .inl ⟨kv es, .inr pth, .inr ⟨od, sma _ _ hlk⟩, rfl, hv.symm⟩, rfl, _, rfl, ?_⟩
    have next := roomsE_next hie
    refine ifD (fun hnon => ?_) (fun hnon => ?_)
    · refine ⟨Nat.zero_le _, fun l2 hl2 => ?_⟩
      have nl2p : p ≠ l2 := ne_of_none rma.d hl2
      have hl2L : L l2 = none := sma.free hl2
      have hl2H : H l2 = none := by
        by_cases e : l2 = d
        · subst e; rw [hlk] at hl2L; cases hl2L
        · rw [← eL, upd_ne e] at hl2L; exact hl2L
      have rml := rma.same (same_new (o := .lst []) hl2)
      have sml := sma.trans (same_new (o := .lst []) hl2)
      have hkno : pth ∉ rs.map (·.1) := by
        rw [hkeys, room_keys, List.mem_cons]
        rintro (h0 | h0)
        · exact (isPl_pt hp1).2 h0
        · obtain ⟨e, he, h1⟩ := List.mem_map.mp h0
          have := put_filt (g := fun e => decide (e.2 = .non)) ok.nd hie
          have hn2 : ((es.take (i + 1)).map (·.1)).Nodup := by rw [List.map_take]; exact ok.nd.sublist (List.take_sublist _ _)
          rw [List.take_add_one, hie, List.map_append, List.nodup_append] at hn2
          exact hn2.2.2 pth (List.mem_map.mpr ⟨e, (List.mem_filter.mp he).1, h1⟩) pth (by simp) rfl
      have hvno : valV (rkv (addRoom rs (par pth) (lastN pth))) (.inr pth) = none := by rw [addRoom_kv]; exact val_rkv_no hkno
      refine ⟨_, rfl, _, rfl, p, _, rfl, DPut.k (k := Sum.inr pth) rml.d ?_, ?_⟩
      · rw [addRoom_kv]; unfold rkv; rw [List.length_map]; omega
      · rw [putK_new _ hvno]
        refine ⟨addRoom rs (par pth) (lastN pth) ++ [(pth, l2, [])], _, _, _, _, rfl, ?_, ⟨?_, ?_⟩, ?_, ?_, ?_⟩
        · refine same_upd (fr0 _ hp) sml
        · rw [upd_same]; unfold rkv; rw [List.map_append]; rfl
        · intro x hx
          rcases List.mem_append.mp hx with hx | hx
          · have nx : x.2.1 ≠ p := ne_of (rml.l x hx) rml.d (by intro z; cases z)
            rw [upd_ne nx]; exact rml.l x hx
          · obtain rfl := List.mem_singleton.mp hx
            rw [upd_ne nl2p.symm, upd_same]; rfl
        · rw [next]
          unfold roomStep
          rw [if_pos (show ((pth, v) : Str × V).2 = .non from hnon)]
          show bare3 (_ ++ _) = _
          unfold bare3
          rw [List.map_append]
          congr 1
        · rw [List.map_append, List.nodup_append]
          refine ⟨naa, by simp, fun a ha b hb => ?_⟩
          obtain ⟨x, hx, rfl⟩ := List.mem_map.mp ha
          obtain rfl : b = l2 := List.mem_singleton.mp hb
          exact ne_of_none (rma.l x hx) hl2
        · intro x hx
          rcases List.mem_append.mp hx with hx | hx
          · exact fra x hx
          · obtain rfl := List.mem_singleton.mp hx; exact hl2H
    · refine ⟨_, _, _, _, _, rfl, sma, rma, ?_, naa, fra⟩
      rw [next, bra]
      unfold roomStep
      rw [if_neg (show ¬ ((pth, v) : Str × V).2 = .non from hnon), List.append_nil]
  · rintro σ H1 ⟨rs, v2, v3, v4, v5, rfl, sm, rm, br, na, fr⟩
    rw [hkl, List.take_length] at br
    refine ⟨sm _ _ hlk, _, rfl, ?_⟩
    refine hq _ p rs (hs0 _ sm) hp ⟨by rw [upd_ne npd.symm]; exact rm.d, fun x hx => ?_⟩ br
    rw [upd_ne (Ne.symm (ne_of_none hd (fr x hx)))]
    exact rm.l x hx
end
end KF

set_option Elab.async false
set_option linter.all false
set_option maxRecDepth 100000
set_option maxHeartbeats 4000000
namespace PySem
namespace BadPathX
open PySem.W PySem.Calls PyProof.Rows PySem.HandSPX
/-! ### the text of __init__ -/
def iA (p1 p2 : Pos) : Arguments := { posonlyargs := [], args := [{ arg := "self", annotation := none, pos := p1 }, { arg := "path", annotation := none, pos := p2 }], vararg := none, kwonlyargs := [], kw_defaults := [], kwarg := none, defaults := [] }
def iB (q1 q2 q3 q4 : Pos) : List Stmt := [.Assign [.Attribute (.Name "self" q1) "path" q2] (.Name "path" q3) q4]
def iS : Scope := { kind := .function, names := [(PySem.Str.ofString "self", .local), (PySem.Str.ofString "path", .local)], isGenerator := false, isCoroutine := false, more := [] }
/-- what the written part says of Low, at C, and of its __init__, at fI -/
structure PathTxt (K : Frag) (mg : Str → Option Value) (C fI : Addr) : Prop where
  gC : mg "BadPath" = some (.ref C)
  cls : ∃ nm q N bs bm sn sub ab col dd k0 k1 k2 k3 k5, K.lookup C = some (excClassObj nm q C N bs bm true sn sub ab col dd k0 k1 k2 k3 k5 "ValueError.__new__") ∧ refsVE bm = true
  sa : findIn K (.ref C) "__setattr__" = some (some (.builtin "object.__setattr__"))
  ga : findIn K (.ref C) "__getattribute__" = some (some (.builtin "BaseException.__getattribute__"))
  gg : findIn K (.ref C) "__getattr__" = some none
  noN : findIn K (.ref C) "path" = some none
  iC : findIn K (.ref C) "__init__" = some (some (.ref fI))
  tC : typeIn K (.ref fI) = some (.type "function")
  kC : keepIn K (.ref C) = true
  exC : subIn K (.ref C) (.type "BaseException") = some true
  tyC : typeIn K (.ref C) = some (.type "type")
  hdC : hasDictIn K C = true
  te : exmOne K (.ref C) (.ref C) = some true
  fn : ∃ (oc : Value) (od : Option Addr) (doc pm : Value) (an : Option Addr) (cdv ct : Value) (osl : Array (Option Value)) (p1 p2 q1 q2 q3 q4 : Pos),
    K.lookup fI = some ⟨oc, od, .func (fnOf "__init__" "BadPath.__init__" (iA p1 p2) (iB q1 q2 q3 q4) iS .none .none doc pm an cdv ct), osl⟩ ∧ codeIn K cdv "BadPath.__init__" = true
theorem one_size (v : Value) : [v].length ≤ sizeLine := by
  rw [sizeLine_eq]
  exact (by decide : 1 ≤ 16777216)
theorem kept_but {K : Frag} {h h' : Heap} {x : Addr} (X : K.In h) (hx : K.lookup x = none) (k : ∀ b o, b ≠ x → h.get? b = some o → h'.get? b = some o) : K.In h' := fun a o e =>
  k a o (fun z => by rw [z, hx] at e; cases e) (X a o e)
theorem ldC {M : Model} {s : Shared} {name : Str} {scope : Scope} {L a : Addr} {cd : Value} {m : Str → Option Value} {x : Str} {pos : Pos} {v : Value} {Q : Value → Shared → Prop} {A : Around} {E : Value → Shared → Prop} (hn : s.heap.Ns L m) (hv : m x = some v) (h : Q v s)
    (hk : scope.kind = .function := by rfl) (hl : (envOfC name scope L a cd).kindOf x = some .local := by rfl) (hd : (x == ("__debug__" : Str)) = false := by decide) :
    wpAny M A (eval (.Name x pos) (envOfC name scope L a cd)) Q E s := wpAny_Name (wpAny_loadName_local hk hl hn hv h) hd
/-- what __init__ leaves of a fresh exception at x -/
structure InitEnd (h h' : Heap) (x C dx t1 : Addr) (v : Value) : Prop where
  keep : ∀ b o, b ≠ x → h.get? b = some o → h'.get? b = some o
  obj : h'.get? x = some { cls := .ref C, dict := some dx, data := .fields #[.ref t1, .none, .none, .none, .bool false, .none] }
  dbig : h.objs.size ≤ dx
  dne : dx ≠ x
  ns : h'.Ns1 dx (fun y => if y = "path" then some v else none)
/-- a made Low -/
structure OwnMade (h h' : Heap) (e C d : Addr) (v : Value) : Prop where
  keep : ∀ b o, h.get? b = some o → h'.get? b = some o
  new : h.objs.size ≤ e
  obj : ∃ oe vs, h'.get? e = some oe ∧ oe.cls = .ref C ∧ oe.dict = some d ∧ oe.data = .fields vs ∧ vs[1]? = some .none
  dbig : h.objs.size ≤ d
  dne : d ≠ e
  ns : h'.Ns1 d (fun y => if y = "path" then some v else none)
section
variable {prog : Program} {w : World} {A : Around} {E : Value → Shared → Prop} {R : Result → Shared → Prop} {s : Shared} {K : Frag} {mg : Str → Option Value} {C fI : Addr}
theorem low_init (T : PathTxt K mg C fI) {x t0 : Addr} {v : Value} (X : K.In s.heap) (hlim : s.heap.NoLimit) (hx : s.heap.get? x = some (excO C t0)) (hnx : K.lookup x = none) (hroom : A.depth < recursionLimit)
    (hq : ∀ h' tk dx, InitEnd s.heap h' x C dx t0 v → R (.ok (.ret .none)) { s with heap := h', toks := tk }) :
    codeAny (model prog w) A (.call (.ref fI) ⟨[.ref x, v], []⟩) R s := by
  obtain ⟨oc, od, doc, pm, an, cdv, ct, osl, p1, p2, q1, q2, q3, q4, ho, hcd⟩ := T.fn
  obtain ⟨nm, q, N, bs, bm, sn, sub, ab, col, dd, k0, k1, k2, k3, k5, hC, hbm⟩ := T.cls
  have hcl : clsIn K C = some { name := nm, bases := bs, mro := .ref C :: bm, ns := N, qualname := q, hasDict := true, slotNames := sn, subclasses := sub, abstract := ab, collection := col, hasDel := false } := by unfold clsIn; rw [hC] <;> rfl
  refine Att.call_fn (binds := [("self", .ref x), ("path", v)]) X hlim ho hcd hroom (BindsTo.of_eq (by first | rfl | with_unfolding_all rfl)) (by first | rfl | decide | with_unfolding_all rfl) (fun s₁ IC => ?_) rfl rfl rfl
  obtain ⟨h₁, tk₁, rfl⟩ := IC.toInCall.same
  have k : ∀ b o, s.heap.get? b = some o → h₁.get? b = some o := IC.toInCall.keep
  have hn := IC.toInCall.ns
  have hxL : s.heap.objs.size ≠ x := Nat.ne_of_gt (Heap.lt_size hx)
  have X₁ : K.In h₁ := X.keeps k
  have hx₁ := k _ _ hx
  -- self.by = by
  show wpAny _ _ (execs _ _) _ _ _
  refine wpAny_execs_cons (plainObj_wpAny_Assign_Attribute ?_)
  refine ldC (v := v) hn (by first | rfl | with_unfolding_all rfl | kernel_rfl) (ldC (v := .ref x) hn (by first | rfl | with_unfolding_all rfl | kernel_rfl) ?_)
  refine set_plain X₁ (ox := excO C t0) (od := none) ⟨hx₁, rfl, rfl, trivial⟩ T.sa ?_
  refine exc_osa X₁ hx₁ hcl (show refsVE (.ref C :: bm) = true from hbm) rfl T.noN (fun h₃ tk₃ dx k₃ dn dne hx₃ hn₃ => ?_)
  show wpAny _ _ (execs _ _) _ _ _
  have z : s.heap.objs.size < h₁.objs.size := hn.lt
  exact wpAny_execs_nil (hq h₃ tk₃ dx ⟨fun b o hb e => k₃ b o hb (k b o e), hx₃, Nat.le_of_lt (Nat.lt_of_lt_of_le z dn), dne, hn₃⟩)
theorem low_made (T : PathTxt K mg C fI) {v : Value} (X : K.In s.heap) (hlim : s.heap.NoLimit) (hroom : A.depth + 1 < recursionLimit)
    (hq : ∀ h' tk e d, OwnMade s.heap h' e C d v → R (.ok (.ret (.ref e))) { s with heap := h', toks := tk }) :
    codeAny (model prog w) A (.call (.ref C) ⟨[v], []⟩) R s := by
  obtain ⟨nm, q, N, bs, bm, sn, sub, ab, col, dd, k0, k1, k2, k3, k5, hC, hbm⟩ := T.cls
  obtain ⟨hp, g, dr, tk, os⟩ := s
  have k : ∀ b o, hp.get? b = some o → ((hp.push (kdv_tup [v])).push (excO C hp.objs.size)).get? b = some o := fun b o e => Heap.get?_push_of_some _ (Heap.get?_push_of_some _ e)
  have hget : ((hp.push (kdv_tup [v])).push (excO C hp.objs.size)).get? (hp.objs.size + 1) = some (excO C hp.objs.size) := by heap_get
  have hnx : K.lookup (hp.objs.size + 1) = none := by
    cases e : K.lookup (hp.objs.size + 1) with
    | none => rfl
    | some o =>
      have z : hp.get? (hp.objs.size + 1) = some o := X _ _ e
      exact absurd (Nat.lt_of_succ_lt (Heap.lt_size z)) (Nat.lt_irrefl _)
  refine call_own F.excBase_ValueError (fun X => refsVE_contains X bm hbm) (X _ _ hC) (looks_findIn X T.iC) (fun self => bind_fn X self T.tC) (one_size v) ?_
  refine low_init (s := ⟨(hp.push (kdv_tup [v])).push (excO C hp.objs.size), g, dr, tk, os⟩) T (X.keeps k) (hlim.keeps k) hget hnx ?_ fun h' tk' dx ⟨k', hx, dn, dne, hns⟩ => ?_
  · show A.depth + 1 < recursionLimit
    exact hroom
  · have old : ∀ b o, hp.get? b = some o → h'.get? b = some o := fun b o e => k' b o (Nat.ne_of_lt (Nat.lt_succ_of_lt (Heap.lt_size e))) (k b o e)
    have z : hp.objs.size + 1 + 1 ≤ dx := by
      first
        | (simpa only [Heap.size_push] using dn)
        | exact dn
        | (have q := dn; rw [Heap.size_push, Heap.size_push] at q; exact q)
    exact ⟨rfl, hq h' tk' (hp.objs.size + 1) dx ⟨old, Nat.le_succ _, ⟨_, _, hx, rfl, rfl, rfl, rfl⟩, Nat.le_trans (Nat.le_trans (Nat.le_succ _) (Nat.le_succ _)) z, dne, hns⟩⟩
end
end BadPathX
end PySem
namespace L2
open PySem PySem.Spec PyProof.Rows
theorem relO_path {v : V} {v' : Value} (r : RelV v v') (f : Str) : RelO (List.lookup f [(("path" : Str), v)]) (if f = "path" then some v' else none) := by
  by_cases hw : f = "path"
  · subst hw
    rw [if_pos rfl]
    have q : List.lookup ("path" : Str) [(("path" : Str), v)] = some v := by simp [List.lookup]
    rw [q]
    exact r
  · rw [if_neg hw]
    have qw : (f == ("path" : Str)) = false := by simpa using hw
    have q2 : List.lookup f [(("path" : Str), v)] = none := by simp [List.lookup, qw]
    rw [q2]
    trivial
section
variable {X : Cx} {C fI : Addr}
/-- Low(e) -/
def tMkPath (C : Addr) (ta : TA) : St → Hp → XK → Prop := fun σ H Q => ta σ H fun vs H1 => ∃ v, vs = [v] ∧ ∀ d, H1 d = none → Q (.ref C) (some d) (upd H1 d (.xd [(("path" : Str), v)]))
theorem pmk_path {a : Expr} {ta : TA} {p pos : Pos} {k : Nat} (T : PySem.BadPathX.PathTxt X.K X.mg C fI) (hr : Room k X.A) (ha : PA X [a] ta) (hg : Gl X "BadPath" := by rfl)
    (he : starEach (a :: []) X.env = (false, eval a X.env) :: starEach [] X.env := by rfl) (hpl : (backTo pos (starEach [] X.env)).any (·.1) = false := by rfl) :
    PMk X (.Call (.Name "BadPath" p) [a] [] pos) (tMkPath C ta) := by
  intro pins s σ H Q I h
  refine wpAny_Call_Name_kw (ld_glob I hg T.gC ?_)
  refine PySem.W.callWith_K (h₀ := X.base) I.ok.mod.kin T.kC (thn (ha.run pos pins s σ H _ I h) fun us s1 hh => ?_) he hpl
  obtain ⟨vs, H1, I1, r1, v, ev, q1⟩ := hh
  subst ev
  refine ⟨I1.kIn, ?_⟩
  cases r1 with
  | cons rv rn =>
    rename_i v' us'
    cases rn
    show wpAny _ _ (call (.ref C) [v']) _ _ _
    have hlim := I1.nolimit
    obtain ⟨hp, g, dr, tk, os⟩ := s1
    refine wpAny_call (PySem.BadPathX.low_made T I1.kIn hlim (by have := hr.dp; omega) fun h' tk' e d M => ?_)
    show MkP X pins σ Q (.ref e) ⟨h', g, dr, tk', os⟩
    obtain ⟨oe, fv, hoe, hc, hd, hdat, h1⟩ := M.obj
    have hns := M.ns
    obtain ⟨G', g1, g2⟩ := restrict h' fun b => decide (b ≠ e)
    have gk : ∀ b, b ≠ e → G'.get? b = h'.get? b := fun b hb => g1 b (decide_eq_true hb)
    have ge : G'.get? e = none := g2 e (by simp)
    have old : ∀ b o, hp.get? b = some o → G'.get? b = some o := fun b o q => (gk b (Nat.ne_of_lt (Nat.lt_of_lt_of_le (Heap.lt_size q) M.new))).trans (M.keep b o q)
    have ob : ObjOk X.prog X.w (upd H1 d (.xd [(("path" : Str), v)])) G' d (.xd [(("path" : Str), v)]) :=
      ⟨_, hns.at (fun o q => (gk d M.dne).trans q), fun f => relO_path rv f⟩
    have J : Inv X pins σ (upd H1 d (.xd [(("path" : Str), v)])) ⟨G', g, dr, tk', os⟩ := I1.laid (t' := tk') old M.dbig ob
    refine ⟨e, oe, fv, ⟨G', g, dr, tk', os⟩, _, .ref C, some d, rfl, J, fun b o q => ?_, ge, hoe, ⟨hc, hd⟩, hdat, h1, ?_, rfl, I1.bare, raises_own T.exC T.tyC, q1 d (I1.hok.fresh M.dbig)⟩
    · by_cases hb : b = e
      · have q' : G'.get? b = some o := q
        rw [hb, ge] at q'; cases q'
      · exact (gk b hb).symm.trans q
    · rw [upd_ne (Ne.symm M.dne)]
      exact I1.hok.fresh M.new
/-- raise Low(e) -/
def tRaisePath (C : Addr) (W : WX) (ta : TA) : TS := fun _ σ H => tMkPath C ta σ H fun cls d H' => W cls d σ H'
theorem ps_raisePath {a : Expr} {ta : TA} {W : WX} {p pos pos2 : Pos} {k : Nat} (hc : X.calm = true) (T : PySem.BadPathX.PathTxt X.K X.mg C fI) (hr : Room k X.A) (tk : Takes X W) (ha : PA X [a] ta) (hg : Gl X "BadPath" := by rfl)
    (he : starEach (a :: []) X.env = (false, eval a X.env) :: starEach [] X.env := by rfl) (hpl : (backTo pos (starEach [] X.env)).any (·.1) = false := by rfl) :
    PS X (.Raise (some (.Call (.Name "BadPath" p) [a] [] pos)) none pos2) (tRaisePath C W ta) := ps_raise hc tk (pmk_path T hr ha hg he hpl)
/-- low.by, low the exception that the suite holds (at a; its class cls, its dict d) -/
def tPathOf (C : Addr) (a : Addr) (cls : Value) (d : Option Addr) (te : TE) : TE := fun σ H Q => te σ H fun x H1 => x = .ref a ∧ cls = .ref C ∧ ∃ (dd : Addr) (v : V), d = some dd ∧ H1 dd = some (.xd [(("path" : Str), v)]) ∧ Q v H1
theorem pe_pathOf {a : Addr} {oe : Obj} {cls : Value} {d : Option Addr} {pn : List (Addr × Obj)} {e : Expr} {te : TE} {pos : Pos} (T : PySem.BadPathX.PathTxt X.K X.mg C fI) (hz : Zc cls d oe) (hf : ∃ vs, oe.data = .fields vs) (he : PE (X.suite a ((a, oe) :: pn)) e te)
    (hb : attributeBase e "path" X.env (eval e X.env) = eval e X.env := by rfl) :
    PE (X.suite a ((a, oe) :: pn)) (.Attribute e "path" pos) (tPathOf C a cls d te) := by
  refine ⟨fun pins s σ H Q I h => ?_⟩
  refine attr_of hb (thn (he.run pins s σ H _ I h) fun u s1 hh => ?_)
  obtain ⟨x, H1, I1, rx, ex, ec, dd, v, ed, ea, q⟩ := hh
  subst ex
  obtain rfl : u = Value.ref a := rx
  subst ec
  subst ed
  obtain ⟨ha, _⟩ := I1.pin (a, oe) (List.mem_append_left _ List.mem_cons_self)
  obtain ⟨vs, hd⟩ := hf
  have hx : ObjOk X.prog X.w H1 s1.heap dd (.xd [(("path" : Str), v)]) := I1.hok dd _ ea
  obtain ⟨mA, hns, hr⟩ := hx
  obtain ⟨od, ho, hl⟩ := lookIn_ns hns
  have l : List.lookup ("path" : Str) [(("path" : Str), v)] = some v := by simp [List.lookup]
  obtain ⟨u, hu, ru⟩ := RelO.some_of (v := v) (o := mA "path") (by rw [← l]; exact hr "path")
  have J : PySem.W.InstAt s1.heap a oe C (some od) := ⟨ha, hz.1, by unfold PySem.W.notCls; rw [hd] <;> rfl, by rw [hz.2]; exact ho⟩
  exact HandSPX.exc_get I1.kIn J T.ga T.gg T.exC (PySem.W.findObj_own T.hdC T.noN rfl (by rw [hl, hu])) (handed_of ru) ⟨v, H1, I1.tok _, ru, q⟩
end
end L2

namespace L2
open PySem PySem.Spec PyProof.Rows
/-- an if whose test is known -/
theorem if_true_of {c : Bool} {A B : Prop} (hc : c = true) (h : A) : if c = true then A else B := by
  rw [if_pos hc]
  exact h
theorem if_false_of {c : Bool} {A B : Prop} (hc : c = false) (h : B) : if c = true then A else B := by
  rw [hc, if_neg Bool.false_ne_true]
  exact h
end L2

set_option Elab.async false
set_option linter.all false
set_option maxRecDepth 100000
set_option maxHeartbeats 4000000
namespace LF
open PySem PySem.Spec PySem.Calls PyProof.Rows PySem.HandSPX
open PySem.Builtin PySem.Builtin.ObjectAttr
open PySem.W (Looks InstAt)
section
variable {prog : Program} {w : World} {A : Around} {R : Result → Shared → Prop} {hh : Heap} {gg : Array GenState} {dw : Drawn} {tt : Nat} {oo : OsState} {K : PySem.W.Frag}
/-- the first field of an own error that stands right above a builtin one -/
theorem put_field {B : String} {tail : List Value} {fld : Str} {tk : Tok} {u : Value} {e C : Addr} {fv : Array Value} {cls : ClassData} (SB : StoreFacts B tail "object.__setattr__" "object") (hob : tail.contains (.type "object") = true)
    (inK : K.In hh) (he : hh.get? e = some { cls := .ref C, data := .fields fv }) (hcls : PySem.W.clsIn K C = some cls) (hmro : cls.mro = .ref C :: tail) (hdct : cls.hasDict = true) (hno : PySem.W.findIn K (.ref C) fld = some none)
    (k : ∀ h' tk' dx, (∀ b o, b ≠ e → hh.get? b = some o → h'.get? b = some o) → hh.objs.size ≤ dx → dx ≠ e → h'.get? e = some { cls := .ref C, dict := some dx, data := .fields fv } →
      h'.Ns1 dx (fun y => if y = fld then some u else none) → R (.ok (.ret .none)) ⟨h', gg, dw, tk', oo⟩) :
    codeAny (model prog w) A (.call (.builtin "object.__setattr__") ⟨[.ref e, .str fld tk, u], []⟩) R ⟨hh, gg, dw, tt, oo⟩ := by
  have J : InstAt hh e { cls := .ref C, data := .fields fv } C none := ⟨he, rfl, rfl, trivial⟩
  have SO := PySem.F.store_object
  have nemp : cls.mro.isEmpty = false := by rw [hmro]; rfl
  have hobj : cls.mro.contains (.type "object") = true := by rw [hmro, List.contains_cons, hob, Bool.or_true]
  have apart : e ≠ hh.objs.size := Nat.ne_of_lt (Heap.lt_size he)
  have inst : Looks (model prog w) hh (isInstance (.ref e) (.type "object")) true :=
    J.type.andThen (PySem.W.looks_mroIn inK (by unfold PySem.W.mroIn; rw [hcls, Option.bind_some, if_neg (by rw [nemp]; decide), hobj]))
  have lmro : Looks (model prog w) hh (mroOf (.ref C)) cls.mro := (PySem.W.looks_clsIn inK hcls).andThen .now
  have ltak : Looks (model prog w) hh (storeTaker? none) none := .now
  have lcls : Looks (model prog w) hh (classData C) cls := PySem.W.looks_clsIn inK hcls
  refine codeAny_call_builtin SO.slot.plain SO.entry (@PySem.W.check_slot (model prog w) _ _ ⟨hh, gg, dw, tt, oo⟩ "object.__setattr__" "object" "__setattr__" (.ref e) [.str fld tk, u] [] _ SO.kind SO.split inst (SO.args (.ref e) (.str fld tk) u) ?_)
  rw [PySem.W.osa_eq, refuse_eq]
  refine wpAny_bind (wpAny_bind (J.type.at (wpAny_bind (lmro.at ?_))))
  rw [hmro, refuseLoop_ref, SB.passes (.ref e)]
  refine wpAny_pure (wpAny_bind (J.type.at (wpAny_bind ((PySem.W.looks_findIn inK hno).at (wpAny_bind (ltak.at ?_))))))
  show wpAny _ _ (storeInOwnDict (.ref e) (.ref C) (.str fld tk) fld u false) _ _ _
  obtain ⟨c1, c2, c3, c4, c5, c6, c7, c8, c9, c10, c11⟩ := cls
  dsimp only at hdct
  subst hdct
  unfold storeInOwnDict ownDictForStores
  repeat (first
    | with_reducible refine store_in_new ?_ ?_
    | with_reducible refine wpAny_loadPart_at he ?_
    | with_reducible refine lcls.at ?_
    | wp_step)
  · exact ⟨_, #[], _, (Heap.get?_update_ne _ _ _ _ apart.symm).trans (Heap.get?_push_at rfl rfl), rfl, fun z hz => absurd hz (by simp), fun _ => rfl⟩
  · intro h' tk' ns' but
    have he1 : (hh.push { cls := .type "dict", data := .dict #[] }).get? e = some { cls := .ref C, data := .fields fv } := Heap.get?_push_of_some _ he
    refine k h' tk' hh.objs.size (fun b o hb ho => ?_) (Nat.le_refl _) apart.symm ?_ ns'
    · exact (but.2 b (Nat.ne_of_lt (Heap.lt_size ho))).trans ((Heap.get?_update_ne _ _ _ _ hb).trans (Heap.get?_push_of_some _ ho))
    · exact (but.2 e apart).trans (Heap.get?_update_self _ he1 rfl)
end
end LF

set_option Elab.async false
set_option linter.all false
set_option maxRecDepth 100000
set_option maxHeartbeats 4000000
namespace PySem
namespace TooManyX
open PySem.W PySem.Calls PyProof.Rows PySem.HandSPX
abbrev ovTail : List Value := [.type "OverflowError", .type "ArithmeticError", .type "Exception", .type "BaseException", .type "object"]
/-! ### the text of __init__ -/
def iA (p1 p2 : Pos) : Arguments := { posonlyargs := [], args := [{ arg := "self", annotation := none, pos := p1 }, { arg := "limit", annotation := none, pos := p2 }], vararg := none, kwonlyargs := [], kw_defaults := [], kwarg := none, defaults := [] }
def iB (q1 q2 q3 q4 : Pos) : List Stmt := [.Assign [.Attribute (.Name "self" q1) "limit" q2] (.Name "limit" q3) q4]
def iS : Scope := { kind := .function, names := [(PySem.Str.ofString "self", .local), (PySem.Str.ofString "limit", .local)], isGenerator := false, isCoroutine := false, more := [] }
/-- what the written part says of Low, at C, and of its __init__, at fI -/
structure ManyTxt (K : Frag) (mg : Str → Option Value) (C fI : Addr) : Prop where
  gC : mg "TooMany" = some (.ref C)
  cls : ∃ nm q N bs bm sn sub ab col dd k0 k1 k2 k3 k5, K.lookup C = some (excClassObj nm q C N bs bm true sn sub ab col dd k0 k1 k2 k3 k5 "OverflowError.__new__") ∧ bm = ovTail
  sa : findIn K (.ref C) "__setattr__" = some (some (.builtin "object.__setattr__"))
  ga : findIn K (.ref C) "__getattribute__" = some (some (.builtin "BaseException.__getattribute__"))
  gg : findIn K (.ref C) "__getattr__" = some none
  noN : findIn K (.ref C) "limit" = some none
  iC : findIn K (.ref C) "__init__" = some (some (.ref fI))
  tC : typeIn K (.ref fI) = some (.type "function")
  kC : keepIn K (.ref C) = true
  exC : subIn K (.ref C) (.type "BaseException") = some true
  tyC : typeIn K (.ref C) = some (.type "type")
  hdC : hasDictIn K C = true
  te : exmOne K (.ref C) (.ref C) = some true
  fn : ∃ (oc : Value) (od : Option Addr) (doc pm : Value) (an : Option Addr) (cdv ct : Value) (osl : Array (Option Value)) (p1 p2 q1 q2 q3 q4 : Pos),
    K.lookup fI = some ⟨oc, od, .func (fnOf "__init__" "TooMany.__init__" (iA p1 p2) (iB q1 q2 q3 q4) iS .none .none doc pm an cdv ct), osl⟩ ∧ codeIn K cdv "TooMany.__init__" = true
theorem one_size (v : Value) : [v].length ≤ sizeLine := by
  rw [sizeLine_eq]
  exact (by decide : 1 ≤ 16777216)
theorem kept_but {K : Frag} {h h' : Heap} {x : Addr} (X : K.In h) (hx : K.lookup x = none) (k : ∀ b o, b ≠ x → h.get? b = some o → h'.get? b = some o) : K.In h' := fun a o e =>
  k a o (fun z => by rw [z, hx] at e; cases e) (X a o e)
theorem ldC {M : Model} {s : Shared} {name : Str} {scope : Scope} {L a : Addr} {cd : Value} {m : Str → Option Value} {x : Str} {pos : Pos} {v : Value} {Q : Value → Shared → Prop} {A : Around} {E : Value → Shared → Prop} (hn : s.heap.Ns L m) (hv : m x = some v) (h : Q v s)
    (hk : scope.kind = .function := by rfl) (hl : (envOfC name scope L a cd).kindOf x = some .local := by rfl) (hd : (x == ("__debug__" : Str)) = false := by decide) :
    wpAny M A (eval (.Name x pos) (envOfC name scope L a cd)) Q E s := wpAny_Name (wpAny_loadName_local hk hl hn hv h) hd
/-- what __init__ leaves of a fresh exception at x -/
structure InitEnd (h h' : Heap) (x C dx t1 : Addr) (v : Value) : Prop where
  keep : ∀ b o, b ≠ x → h.get? b = some o → h'.get? b = some o
  obj : h'.get? x = some { cls := .ref C, dict := some dx, data := .fields #[.ref t1, .none, .none, .none, .bool false, .none] }
  dbig : h.objs.size ≤ dx
  dne : dx ≠ x
  ns : h'.Ns1 dx (fun y => if y = "limit" then some v else none)
/-- a made Low -/
structure OwnMade (h h' : Heap) (e C d : Addr) (v : Value) : Prop where
  keep : ∀ b o, h.get? b = some o → h'.get? b = some o
  new : h.objs.size ≤ e
  obj : ∃ oe vs, h'.get? e = some oe ∧ oe.cls = .ref C ∧ oe.dict = some d ∧ oe.data = .fields vs ∧ vs[1]? = some .none
  dbig : h.objs.size ≤ d
  dne : d ≠ e
  ns : h'.Ns1 d (fun y => if y = "limit" then some v else none)
section
variable {prog : Program} {w : World} {A : Around} {E : Value → Shared → Prop} {R : Result → Shared → Prop} {s : Shared} {K : Frag} {mg : Str → Option Value} {C fI : Addr}
theorem low_init (T : ManyTxt K mg C fI) {x t0 : Addr} {v : Value} (X : K.In s.heap) (hlim : s.heap.NoLimit) (hx : s.heap.get? x = some (excO C t0)) (hnx : K.lookup x = none) (hroom : A.depth < recursionLimit)
    (hq : ∀ h' tk dx, InitEnd s.heap h' x C dx t0 v → R (.ok (.ret .none)) { s with heap := h', toks := tk }) :
    codeAny (model prog w) A (.call (.ref fI) ⟨[.ref x, v], []⟩) R s := by
  obtain ⟨oc, od, doc, pm, an, cdv, ct, osl, p1, p2, q1, q2, q3, q4, ho, hcd⟩ := T.fn
  obtain ⟨nm, q, N, bs, bm, sn, sub, ab, col, dd, k0, k1, k2, k3, k5, hC, hbm⟩ := T.cls
  have hcl : clsIn K C = some { name := nm, bases := bs, mro := .ref C :: bm, ns := N, qualname := q, hasDict := true, slotNames := sn, subclasses := sub, abstract := ab, collection := col, hasDel := false } := by unfold clsIn; rw [hC] <;> rfl
  refine Att.call_fn (binds := [("self", .ref x), ("limit", v)]) X hlim ho hcd hroom (BindsTo.of_eq (by first | rfl | with_unfolding_all rfl)) (by first | rfl | decide | with_unfolding_all rfl) (fun s₁ IC => ?_) rfl rfl rfl
  obtain ⟨h₁, tk₁, rfl⟩ := IC.toInCall.same
  have k : ∀ b o, s.heap.get? b = some o → h₁.get? b = some o := IC.toInCall.keep
  have hn := IC.toInCall.ns
  have hxL : s.heap.objs.size ≠ x := Nat.ne_of_gt (Heap.lt_size hx)
  have X₁ : K.In h₁ := X.keeps k
  have hx₁ := k _ _ hx
  -- self.by = by
  show wpAny _ _ (execs _ _) _ _ _
  refine wpAny_execs_cons (plainObj_wpAny_Assign_Attribute ?_)
  refine ldC (v := v) hn (by first | rfl | with_unfolding_all rfl | kernel_rfl) (ldC (v := .ref x) hn (by first | rfl | with_unfolding_all rfl | kernel_rfl) ?_)
  refine set_plain X₁ (ox := excO C t0) (od := none) ⟨hx₁, rfl, rfl, trivial⟩ T.sa ?_
  subst hbm
  refine LF.put_field PySem.F.store_OverflowError (by decide +kernel) X₁ hx₁ hcl rfl rfl T.noN (fun h₃ tk₃ dx k₃ dn dne hx₃ hn₃ => ?_)
  show wpAny _ _ (execs _ _) _ _ _
  have z : s.heap.objs.size < h₁.objs.size := hn.lt
  exact wpAny_execs_nil (hq h₃ tk₃ dx ⟨fun b o hb e => k₃ b o hb (k b o e), hx₃, Nat.le_of_lt (Nat.lt_of_lt_of_le z dn), dne, hn₃⟩)
theorem low_made (T : ManyTxt K mg C fI) {v : Value} (X : K.In s.heap) (hlim : s.heap.NoLimit) (hroom : A.depth + 1 < recursionLimit)
    (hq : ∀ h' tk e d, OwnMade s.heap h' e C d v → R (.ok (.ret (.ref e))) { s with heap := h', toks := tk }) :
    codeAny (model prog w) A (.call (.ref C) ⟨[v], []⟩) R s := by
  obtain ⟨nm, q, N, bs, bm, sn, sub, ab, col, dd, k0, k1, k2, k3, k5, hC, hbm⟩ := T.cls
  obtain ⟨hp, g, dr, tk, os⟩ := s
  have k : ∀ b o, hp.get? b = some o → ((hp.push (kdv_tup [v])).push (excO C hp.objs.size)).get? b = some o := fun b o e => Heap.get?_push_of_some _ (Heap.get?_push_of_some _ e)
  have hget : ((hp.push (kdv_tup [v])).push (excO C hp.objs.size)).get? (hp.objs.size + 1) = some (excO C hp.objs.size) := by heap_get
  have hnx : K.lookup (hp.objs.size + 1) = none := by
    cases e : K.lookup (hp.objs.size + 1) with
    | none => rfl
    | some o =>
      have z : hp.get? (hp.objs.size + 1) = some o := X _ _ e
      exact absurd (Nat.lt_of_succ_lt (Heap.lt_size z)) (Nat.lt_irrefl _)
  subst hbm
  refine call_own F.excBase_OverflowError (fun X => rfl) (X _ _ hC) (looks_findIn X T.iC) (fun self => bind_fn X self T.tC) (one_size v) ?_
  refine low_init (s := ⟨(hp.push (kdv_tup [v])).push (excO C hp.objs.size), g, dr, tk, os⟩) T (X.keeps k) (hlim.keeps k) hget hnx ?_ fun h' tk' dx ⟨k', hx, dn, dne, hns⟩ => ?_
  · show A.depth + 1 < recursionLimit
    exact hroom
  · have old : ∀ b o, hp.get? b = some o → h'.get? b = some o := fun b o e => k' b o (Nat.ne_of_lt (Nat.lt_succ_of_lt (Heap.lt_size e))) (k b o e)
    have z : hp.objs.size + 1 + 1 ≤ dx := by
      first
        | (simpa only [Heap.size_push] using dn)
        | exact dn
        | (have q := dn; rw [Heap.size_push, Heap.size_push] at q; exact q)
    exact ⟨rfl, hq h' tk' (hp.objs.size + 1) dx ⟨old, Nat.le_succ _, ⟨_, _, hx, rfl, rfl, rfl, rfl⟩, Nat.le_trans (Nat.le_trans (Nat.le_succ _) (Nat.le_succ _)) z, dne, hns⟩⟩
end
end TooManyX
end PySem
namespace L2
open PySem PySem.Spec PyProof.Rows
theorem relO_limit {v : V} {v' : Value} (r : RelV v v') (f : Str) : RelO (List.lookup f [(("limit" : Str), v)]) (if f = "limit" then some v' else none) := by
  by_cases hw : f = "limit"
  · subst hw
    rw [if_pos rfl]
    have q : List.lookup ("limit" : Str) [(("limit" : Str), v)] = some v := by simp [List.lookup]
    rw [q]
    exact r
  · rw [if_neg hw]
    have qw : (f == ("limit" : Str)) = false := by simpa using hw
    have q2 : List.lookup f [(("limit" : Str), v)] = none := by simp [List.lookup, qw]
    rw [q2]
    trivial
section
variable {X : Cx} {C fI : Addr}
/-- Low(e) -/
def tMkMany (C : Addr) (ta : TA) : St → Hp → XK → Prop := fun σ H Q => ta σ H fun vs H1 => ∃ v, vs = [v] ∧ ∀ d, H1 d = none → Q (.ref C) (some d) (upd H1 d (.xd [(("limit" : Str), v)]))
theorem pmk_many {a : Expr} {ta : TA} {p pos : Pos} {k : Nat} (T : PySem.TooManyX.ManyTxt X.K X.mg C fI) (hr : Room k X.A) (ha : PA X [a] ta) (hg : Gl X "TooMany" := by rfl)
    (he : starEach (a :: []) X.env = (false, eval a X.env) :: starEach [] X.env := by rfl) (hpl : (backTo pos (starEach [] X.env)).any (·.1) = false := by rfl) :
    PMk X (.Call (.Name "TooMany" p) [a] [] pos) (tMkMany C ta) := by
  intro pins s σ H Q I h
  refine wpAny_Call_Name_kw (ld_glob I hg T.gC ?_)
  refine PySem.W.callWith_K (h₀ := X.base) I.ok.mod.kin T.kC (thn (ha.run pos pins s σ H _ I h) fun us s1 hh => ?_) he hpl
  obtain ⟨vs, H1, I1, r1, v, ev, q1⟩ := hh
  subst ev
  refine ⟨I1.kIn, ?_⟩
  cases r1 with
  | cons rv rn =>
    rename_i v' us'
    cases rn
    show wpAny _ _ (call (.ref C) [v']) _ _ _
    have hlim := I1.nolimit
    obtain ⟨hp, g, dr, tk, os⟩ := s1
    refine wpAny_call (PySem.TooManyX.low_made T I1.kIn hlim (by have := hr.dp; omega) fun h' tk' e d M => ?_)
    show MkP X pins σ Q (.ref e) ⟨h', g, dr, tk', os⟩
    obtain ⟨oe, fv, hoe, hc, hd, hdat, h1⟩ := M.obj
    have hns := M.ns
    obtain ⟨G', g1, g2⟩ := restrict h' fun b => decide (b ≠ e)
    have gk : ∀ b, b ≠ e → G'.get? b = h'.get? b := fun b hb => g1 b (decide_eq_true hb)
    have ge : G'.get? e = none := g2 e (by simp)
    have old : ∀ b o, hp.get? b = some o → G'.get? b = some o := fun b o q => (gk b (Nat.ne_of_lt (Nat.lt_of_lt_of_le (Heap.lt_size q) M.new))).trans (M.keep b o q)
    have ob : ObjOk X.prog X.w (upd H1 d (.xd [(("limit" : Str), v)])) G' d (.xd [(("limit" : Str), v)]) :=
      ⟨_, hns.at (fun o q => (gk d M.dne).trans q), fun f => relO_limit rv f⟩
    have J : Inv X pins σ (upd H1 d (.xd [(("limit" : Str), v)])) ⟨G', g, dr, tk', os⟩ := I1.laid (t' := tk') old M.dbig ob
    refine ⟨e, oe, fv, ⟨G', g, dr, tk', os⟩, _, .ref C, some d, rfl, J, fun b o q => ?_, ge, hoe, ⟨hc, hd⟩, hdat, h1, ?_, rfl, I1.bare, raises_own T.exC T.tyC, q1 d (I1.hok.fresh M.dbig)⟩
    · by_cases hb : b = e
      · have q' : G'.get? b = some o := q
        rw [hb, ge] at q'; cases q'
      · exact (gk b hb).symm.trans q
    · rw [upd_ne (Ne.symm M.dne)]
      exact I1.hok.fresh M.new
/-- raise Low(e) -/
def tRaiseMany (C : Addr) (W : WX) (ta : TA) : TS := fun _ σ H => tMkMany C ta σ H fun cls d H' => W cls d σ H'
theorem ps_raiseMany {a : Expr} {ta : TA} {W : WX} {p pos pos2 : Pos} {k : Nat} (hc : X.calm = true) (T : PySem.TooManyX.ManyTxt X.K X.mg C fI) (hr : Room k X.A) (tk : Takes X W) (ha : PA X [a] ta) (hg : Gl X "TooMany" := by rfl)
    (he : starEach (a :: []) X.env = (false, eval a X.env) :: starEach [] X.env := by rfl) (hpl : (backTo pos (starEach [] X.env)).any (·.1) = false := by rfl) :
    PS X (.Raise (some (.Call (.Name "TooMany" p) [a] [] pos)) none pos2) (tRaiseMany C W ta) := ps_raise hc tk (pmk_many T hr ha hg he hpl)
/-- low.by, low the exception that the suite holds (at a; its class cls, its dict d) -/
def tLimitOf (C : Addr) (a : Addr) (cls : Value) (d : Option Addr) (te : TE) : TE := fun σ H Q => te σ H fun x H1 => x = .ref a ∧ cls = .ref C ∧ ∃ (dd : Addr) (v : V), d = some dd ∧ H1 dd = some (.xd [(("limit" : Str), v)]) ∧ Q v H1
theorem pe_limitOf {a : Addr} {oe : Obj} {cls : Value} {d : Option Addr} {pn : List (Addr × Obj)} {e : Expr} {te : TE} {pos : Pos} (T : PySem.TooManyX.ManyTxt X.K X.mg C fI) (hz : Zc cls d oe) (hf : ∃ vs, oe.data = .fields vs) (he : PE (X.suite a ((a, oe) :: pn)) e te)
    (hb : attributeBase e "limit" X.env (eval e X.env) = eval e X.env := by rfl) :
    PE (X.suite a ((a, oe) :: pn)) (.Attribute e "limit" pos) (tLimitOf C a cls d te) := by
  refine ⟨fun pins s σ H Q I h => ?_⟩
  refine attr_of hb (thn (he.run pins s σ H _ I h) fun u s1 hh => ?_)
  obtain ⟨x, H1, I1, rx, ex, ec, dd, v, ed, ea, q⟩ := hh
  subst ex
  obtain rfl : u = Value.ref a := rx
  subst ec
  subst ed
  obtain ⟨ha, _⟩ := I1.pin (a, oe) (List.mem_append_left _ List.mem_cons_self)
  obtain ⟨vs, hd⟩ := hf
  have hx : ObjOk X.prog X.w H1 s1.heap dd (.xd [(("limit" : Str), v)]) := I1.hok dd _ ea
  obtain ⟨mA, hns, hr⟩ := hx
  obtain ⟨od, ho, hl⟩ := lookIn_ns hns
  have l : List.lookup ("limit" : Str) [(("limit" : Str), v)] = some v := by simp [List.lookup]
  obtain ⟨u, hu, ru⟩ := RelO.some_of (v := v) (o := mA "limit") (by rw [← l]; exact hr "limit")
  have J : PySem.W.InstAt s1.heap a oe C (some od) := ⟨ha, hz.1, by unfold PySem.W.notCls; rw [hd] <;> rfl, by rw [hz.2]; exact ho⟩
  exact HandSPX.exc_get I1.kIn J T.ga T.gg T.exC (PySem.W.findObj_own T.hdC T.noN rfl (by rw [hl, hu])) (handed_of ru) ⟨v, H1, I1.tok _, ru, q⟩
end
end L2


set_option Elab.async false
set_option linter.all false
set_option maxRecDepth 100000
set_option maxHeartbeats 4000000
namespace LF
open PySem PySem.Spec PyProof.Rows L2
/-- what a class without an __init__ must have to be made -/
structure Mk0 (K : PySem.W.Frag) (C : Addr) : Prop where
  makes : PySem.W.makesIn K C = true
  init : PySem.W.findIn K (.ref C) "__init__" = some (some (.builtin "object.__init__"))
  kp : PySem.W.keepIn K (.ref C) = true
def tMake0 (C : Addr) : TE := fun _ H Q => ∀ x dx, H x = none → H dx = none → dx ≠ x → Q (.ref x) (upd (upd H dx (.own x)) x (.ins C dx []))
/-- C() of a class without an __init__ -/
theorem pe_new0 {X : Cx} {C : Addr} {x : Str} {p pos : Pos} (M : Mk0 X.K C) (hg : Gl X x) (hm : X.mg x = some (.ref C))
    (hdb : (x == ("__debug__" : Str)) = false := by decide) : PE X (.Call (.Name x p) [] [] pos) (tMake0 C) := by
  refine ⟨fun pins s σ H Q I h => ?_⟩
  refine wpAny_Call_Name_kw (ld_glob I hg hm ?_ hdb)
  refine PySem.W.callWith_K0 I.kIn M.kp ?_
  have hq := h (s.heap.objs.size + 1) s.heap.objs.size (I.hok.fresh (Nat.le_succ _)) (I.hok.fresh (Nat.le_refl _)) (Nat.ne_of_lt (Nat.lt_succ_self _))
  have I2 := Inv.made (C := C) I
  have Y := PySem.W.makes_of (M := model X.prog X.w) I.kIn M.makes
  refine wpAny_call (make_map0 I.kIn M.makes M.init (fun self => PySem.W.Looks.of_pure (PySem.W.oi_bind self)) ?_)
  have e2 : ((s.heap.push PySem.W.emptyDict).push (PySem.W.instObj C s.heap.objs.size)).get? (s.heap.objs.size + 1) = some (PySem.W.instObj C s.heap.objs.size) := by
    have := Heap.get?_push_size (s.heap.push PySem.W.emptyDict) (o := PySem.W.instObj C s.heap.objs.size) rfl
    rwa [Heap.size_push] at this
  have t1 : PySem.W.Looks (model X.prog X.w) ((s.heap.push PySem.W.emptyDict).push (PySem.W.instObj C s.heap.objs.size)) (typeOf (.ref (s.heap.objs.size + 1))) (.ref C) := (PySem.W.Looks.ld e2).andThen .now
  have t2 : PySem.W.Looks (model X.prog X.w) ((s.heap.push PySem.W.emptyDict).push (PySem.W.instObj C s.heap.objs.size)) (isInstance (.ref (s.heap.objs.size + 1)) (.type "object")) true :=
    t1.andThen (Y.top.keeps fun b o e => Heap.get?_push_of_some _ (Heap.get?_push_of_some _ e))
  refine codeAny_call_builtin PySem.W.oi_plain PySem.W.entry_oi (@PySem.W.check_slot (model X.prog X.w) _ _ _ "object.__init__" "object" "__init__" (.ref (s.heap.objs.size + 1)) [] [] _ PySem.W.oi_kind PySem.W.oi_split t2 (PySem.W.oi_args (.ref (s.heap.objs.size + 1))) ?_)
  rw [PySem.W.oi_run]
  exact wpAny_pure (And.intro rfl ⟨V.ref (s.heap.objs.size + 1), _, I2, rfl, hq⟩)
end LF

set_option Elab.async false
set_option linter.all false
set_option maxRecDepth 100000
set_option maxHeartbeats 4000000
namespace KF
open PySem PySem.Spec PyProof.Rows L2 LF
abbrev s_Notebook : Stmt := topS 22
abbrev s_ninit : Stmt := inClass s_Notebook 0
theorem sc_ninit : FnScope ["self"] ["self"] (defScope s_ninit) := ⟨rfl, rfl, rfl, by decide +kernel, rfl, by decide +kernel, by decide +kernel⟩
abbrev s_Package : Stmt := topS 53
abbrev s_init : Stmt := inClass s_Package 1
theorem sc_init : FnScope ["self", "entries", "given"] ["self", "entries"] (defScope s_init) := ⟨rfl, rfl, rfl, by decide +kernel, rfl, by decide +kernel, by decide +kernel⟩
/-- what else a package has: solid, rooms, token, notes -/
structure PkX where
  s : Addr
  r : Addr
  t : Addr
  n : Addr
def pkFs (d : Addr) (x : PkX) : List (Str × V) := [("entries", .ref d), ("solid", .ref x.s), ("rooms", .ref x.r), ("token", .ref x.t), ("notes", .ref x.n)]
structure PkRest (H : Hp) (x : PkX) (es : List (Str × V)) : Prop where
  s : H x.s = some (.dK (kv (solidE es)))
  r : ∃ rs, Rooms H x.r rs ∧ bare3 rs = roomsE es
theorem PkRest.same {H H' : Hp} {x : PkX} {es : List (Str × V)} (h : PkRest H x es) (s : Same H H') : PkRest H' x es := ⟨s _ _ h.s, let ⟨rs, r1, r2⟩ := h.r; ⟨rs, r1.same s, r2⟩⟩
theorem PkRest.keep {H H' : Hp} {x : PkX} {es : List (Str × V)} {b : Addr} {o : HO} (h : PkRest H x es) (hb : H b = some o) (hn : (∀ l, o ≠ .lst l) ∧ (∀ l, o ≠ .dK l)) (s : Keep b H H') : PkRest H' x es := by
  obtain ⟨h1, rs, r1, r2⟩ := h
  have nd : ∀ {a l}, H a = some (.dK l) → a ≠ b := fun e q => by subst q; rw [hb] at e; exact hn.2 _ (Option.some.inj e)
  have nl : ∀ {a l}, H a = some (.lst l) → a ≠ b := fun e q => by subst q; rw [hb] at e; exact hn.1 _ (Option.some.inj e)
  exact ⟨s _ _ (nd h1) h1, rs, ⟨s _ _ (nd r1.d) r1.d, fun y hy => s _ _ (nl (r1.l y hy)) (r1.l y hy)⟩, r2⟩
/-- the package at p has these entries -/
def PkAt (C : Addr) (H : Hp) (p : Addr) (es : List (Str × V)) : Prop := ∃ dx d, (∃ x, H p = some (.ins C dx (pkFs d x)) ∧ PkRest H x es) ∧ H d = some (.dK (kv es))
theorem PkAt.same {C p : Addr} {H H' : Hp} {es : List (Str × V)} (h : PkAt C H p es) (s : Same H H') : PkAt C H' p es := by
  obtain ⟨dx, d, ⟨x, h1, h3⟩, h2⟩ := h
  exact ⟨dx, d, ⟨x, s _ _ h1, h3.same s⟩, s _ _ h2⟩
structure PkTxt (K : PySem.W.Frag) (mg : Str → Option Value) (C : Addr) : Prop where
  cl : Cls K C
  nE : NoAttr K C "entries"
  gC : mg "Package" = some (.ref C)
  lim : ∃ tk, Con K C "LIMIT" (.int 40) (.int 40 tk)
  nS : NoAttr K C "solid"
  nR : NoAttr K C "rooms"
  nT : NoAttr K C "token"
  nN : NoAttr K C "notes"
/-- the classes Token and Notebook -/
structure TokTxt (K : PySem.W.Frag) (mg : Str → Option Value) (CT : Addr) : Prop where
  made : Mk0 K CT
  g : mg "Token" = some (.ref CT)
def spNote (CN : Addr) : Sp := fun vs H Q _ => ∃ p dx, vs = [.ref p] ∧ H p = some (.ins CN dx []) ∧ ∀ H' r, Keep p H H' → H r = none → H' p = some (.ins CN dx [("rows", .ref r)]) → H' r = some (.dK []) → Q .non H'
structure NoteTxt (P : Program) (w : World) (K : PySem.W.Frag) (mg : Str → Option Value) (base : Heap) (CN fN : Addr) (fdN : FuncData) : Prop where
  made : Mk K CN fN
  g : mg "Notebook" = some (.ref CN)
  F : FnOk P w K mg base CX0 1 fN fdN ["self"] (spNote CN)
  b : Binds K fdN ["self"] []
theorem okE_nil : OkE [] := ⟨fun _ h => (nomatch h), fun _ h => (nomatch h), fun _ h => (nomatch h), .nil, .nil, Nat.zero_le _⟩
def spIn (CK CM : Addr) : Sp := fun vs H Q E => ∃ (p dx : Addr) (y : V) (es : List (Str × V)), vs = [.ref p, y] ∧ H p = some (.ins CK dx []) ∧ ((y = .non ∧ es = []) ∨ ∃ d, y = .ref d ∧ H d = some (.dK (kv es))) ∧ OkU es ∧ (fullU es).length ≤ 1000000 ∧
  ((pkE es).length ≤ 40 → ∀ H', Keep p H H' → PkAt CK H' p (pkE es) → Q .non H') ∧ (40 < (pkE es).length → ∀ H' dd, Keep p H H' → H' dd = some (.xd [("limit", .int 40)]) → E (.ref CM) (some dd) H')
theorem lk_entries (d : Addr) {x : PkX} : List.lookup ("entries" : Str) (pkFs d x) = some (.ref d) := by simp [pkFs, List.lookup]
def pkNot (m : Str) : Bool := !(m == ("entries" : Str)) && !(m == ("solid" : Str)) && !(m == ("rooms" : Str)) && !(m == ("token" : Str)) && !(m == ("notes" : Str))
theorem lk_no {m : Str} (d : Addr) {x : PkX} (h : pkNot m = true) : List.lookup m (pkFs d x) = none := by
  unfold pkNot at h
  simp only [Bool.and_eq_true, Bool.not_eq_true'] at h
  obtain ⟨⟨⟨⟨h1, h2⟩, h3⟩, h4⟩, h5⟩ := h
  simp [pkFs, List.lookup, h1, h2, h3, h4, h5]
section
variable {P : Program} {w : World} {K : PySem.W.Frag} {mg : Str → Option Value} {base : Heap} {tk1 tk2 : Tok}
theorem ok_ninit {f CN : Addr} {fd : FuncData} (F : Fun K "__init__" "Notebook.__init__" s_ninit f fd) (cl : Cls K CN) (nr : NoAttr K CN "rows") : FnOk P w K mg base CX0 1 f fd ["self"] (spNote CN) := by
  refine F.ok sc_ninit (fun vs H Q E h => ?_) (fun cdv A outer s H vs Q E hr h => ?_)
  · obtain ⟨p, dx, rfl, _⟩ := h
    rfl
  refine ⟨_, pss_one (ps_fld (pv 0) pe_dnewK rfl), ?_⟩
  obtain ⟨p, dx, rfl, hp, hq⟩ := h
  intro r hr0
  have npr : p ≠ r := ne_of_none hp hr0
  refine ⟨_, rfl, p, CN, dx, [], rfl, (by rw [upd_ne npr]; exact hp), cl, nr, (by show 0 < 1000; decide), ?_⟩
  refine hq _ r (keep_put (Same.keep (same_new hr0))) hr0 upd_same (by rw [upd_ne npr.symm, upd_same])
def pf1 (d : Addr) : List (Str × V) := [("entries", .ref d)]
def pf2 (d s : Addr) : List (Str × V) := [("entries", .ref d), ("solid", .ref s)]
def pf3 (d s r : Addr) : List (Str × V) := [("entries", .ref d), ("solid", .ref s), ("rooms", .ref r)]
def pf4 (d s r t : Addr) : List (Str × V) := [("entries", .ref d), ("solid", .ref s), ("rooms", .ref r), ("token", .ref t)]
theorem put0 {d : Addr} : putF "entries" (V.ref d) [] = pf1 d := rfl
theorem put1 {d s : Addr} : putF "solid" (V.ref s) (pf1 d) = pf2 d s := by
  unfold pf1 pf2; simp only [putF]; rw [if_neg (by decide +kernel)]
theorem put2 {d s r : Addr} : putF "rooms" (V.ref r) (pf2 d s) = pf3 d s r := by
  unfold pf2 pf3; simp only [putF]; rw [if_neg (by decide +kernel), if_neg (by decide +kernel)]
theorem put3 {d s r t : Addr} : putF "token" (V.ref t) (pf3 d s r) = pf4 d s r t := by
  unfold pf3 pf4; simp only [putF]; rw [if_neg (by decide +kernel), if_neg (by decide +kernel), if_neg (by decide +kernel)]
theorem put4 {d s r t n : Addr} : putF "notes" (V.ref n) (pf4 d s r t) = pkFs d ⟨s, r, t, n⟩ := by
  unfold pf4 pkFs; simp only [putF]; rw [if_neg (by decide +kernel), if_neg (by decide +kernel), if_neg (by decide +kernel), if_neg (by decide +kernel)]
theorem lkE1 {v : V} {r : List (Str × V)} : List.lookup ("entries" : Str) (("entries", v) :: r) = some v := by simp [List.lookup]
theorem ok_init {f f1 f2 f3 f4 C CM CT CN fM fN : Addr} {fd fd1 fd2 fd3 fd4 fdN : FuncData} (F : FunD K "__init__" "Package.__init__" (defArgs s_init) (defBody s_init) (defScope s_init) [.non] [] f fd) (T : Txt K mg tk1 tk2) (R : PkTxt K mg C) (L : PySem.TooManyX.ManyTxt K mg CM fM)
    (d_ce : DefAt P w K mg base "check_entries" 6 f1 fd1 ["entries"] spCE) (d_wp : DefAt P w K mg base "with_parents" 6 f2 fd2 ["entries"] spWP)
    (d_so : DefAt P w K mg base "solid_entries" 3 f3 fd3 ["entries"] spSolid) (d_nw : DefAt P w K mg base "names_within" 1 f4 fd4 ["entries"] spWithin) (TT : TokTxt K mg CT) (NT : NoteTxt P w K mg base CN fN fdN) :
    FnOk P w K mg base (L2.CX P w) 8 f fd ["self", "entries"] (spIn C CM) := by
  refine F.ok sc_init (fun vs H Q E h => ?_) (fun cdv A outer s H vs Q E hr h => ?_)
  · obtain ⟨p, dx, y, es, rfl, _⟩ := h
    rfl
  refine ⟨_, (pss_cons (ps_set (i := 2) sc_init.nd rfl (Or.inl rfl) (pe_ifExp (pt_cmpR op_isN (pv 1) pe_non (nomark _)) pe_dnewK (pv 1)))
    (pss_cons (ps_expr (pe_callD d_ce (hr.mono (by decide)) (pa_cons (pv 2) pa_nil)))
    (pss_cons (ps_fld (pv 0) (pe_callD d_wp (hr.mono (by decide)) (pa_cons (pv 2) pa_nil)) rfl)
    (pss_cons (ps_if (pt_cmpR op_gt (pe_callB call_lenD (by rfl) T.n_len (by decide +kernel) (pa_cons (pe_fld (pv 0) rfl) pa_nil)) (pe_con (pv 0) rfl) (nomark _)) (pss_one (ps_raiseMany rfl L hr (takes_of rfl rfl rfl rfl) (by exact (pa_cons (pe_con (pv 0) rfl) pa_nil)))) pss_nil)
    (pss_cons (ps_fld (pv 0) (pe_callD d_so (hr.mono (by decide)) (pa_cons (pe_fld (pv 0) rfl) pa_nil)) rfl)
    (pss_cons (ps_fld (pv 0) (pe_callD d_nw (hr.mono (by decide)) (pa_cons (pe_fld (pv 0) rfl) pa_nil)) rfl)
    (pss_cons (ps_fld (pv 0) (pe_new0 TT.made (by rfl) TT.g) rfl)
    (pss_one (ps_fld (pv 0) (pe_make0 NT.made NT.F (hr.mono (by decide)) rfl NT.g NT.b .nil pass0) rfl))))))))), ?_⟩
  obtain ⟨p, dx, y, es, rfl, hp, hy, okU, hful, hq, he⟩ := h
  have hel : es.length ≤ 1000000 := Nat.le_trans (fullN_ge es es) hful
  have ok : OkE (pkE es) := pkE_ok okU hful
  obtain ⟨tkL, lim⟩ := R.lim
  have main : ∀ (H0 : Hp) (g : Addr), Same H H0 → H0 g = some (.dK (kv es)) → tSeq (tDrop (tCall spCE [] E0 (tCons (tVar 2) tNil)))
      (tSeq (sFld K (tVar 0) (tCall spWP [] E0 (tCons (tVar 2) tNil)) "entries")
        (tSeq (tIfS (tTest (tOp (rI0 fun i j => .bl (decide (j < i))) (tCB (fun xs H Q => ∃ a kvs, xs = [V.ref a] ∧ H a = some (.dK kvs) ∧ Q (.int kvs.length) H) (tCons (tFld K (tVar 0) "entries") tNil)) (tCon K (tVar 0) "LIMIT")))
          (tRaiseMany CM (fun cls d _ H' => E cls d H') (tCons (tCon K (tVar 0) "LIMIT") tNil)) tNext)
        (tSeq (sFld K (tVar 0) (tCall spSolid [] E0 (tCons (tFld K (tVar 0) "entries") tNil)) "solid")
        (tSeq (sFld K (tVar 0) (tCall spWithin [] E0 (tCons (tFld K (tVar 0) "entries") tNil)) "rooms")
        (tSeq (sFld K (tVar 0) (tMake0 CT) "token")
        (sFld K (tVar 0) (tMake CN (spNote CN) [] E0 tNil) "notes"))))))
      { nx := fun _ H' => Q .non H', rt := Q } [some (.ref p), some y, some (.ref g)] H0 := by
    intro H0 g s0 hg
    refine ⟨_, rfl, g, es, rfl, hg, okU, hel, fun H1 s1 => ?_⟩
    have S1 := s0.trans s1
    refine ⟨_, rfl, g, es, rfl, s1 _ _ hg, okU, hful, fun H2 d s2 hd0 hd => ?_⟩
    have S2 := S1.trans s2
    have hp2 := S2 _ _ hp
    have npd : d ≠ p := Ne.symm (ne_of_none (S1 _ _ hp) hd0)
    refine ⟨_, rfl, p, C, dx, [], rfl, hp2, R.cl, R.nE, (by show 0 < 1000; decide), ?_⟩
    rw [put0]
    have lk2 : List.lookup ("LIMIT" : Str) (pf1 d) = none := by
      have e : ((Str.ofString "LIMIT") == (Str.ofString "entries")) = false := by decide +kernel
      simp [pf1, List.lookup, e]
    have hd3 : (upd H2 p (.ins C dx (pf1 d))) d = some (.dK (kv (pkE es))) := by rw [upd_ne npd]; exact hd
    have hp3 : (upd H2 p (.ins C dx (pf1 d))) p = some (.ins C dx (pf1 d)) := upd_same
    have K3 : Keep p H (upd H2 p (.ins C dx (pf1 d))) := keep_put (Same.keep S2)
    generalize (upd H2 p (.ins C dx (pf1 d))) = H3 at hd3 hp3 K3
    refine ⟨_, rfl, p, C, dx, _, _, rfl, hp3, R.cl, R.nE, lkE1, d, kv (pkE es), rfl, hd3, ?_⟩
    refine ⟨_, rfl, p, C, dx, _, _, _, rfl, hp3, R.cl, lim, lk2, _, _, rfl, rfl, _, rfl, ?_⟩
    have hkl : (kv (pkE es)).length = (pkE es).length := by unfold kv; rw [List.length_map]
    rw [hkl]
    refine ifD (fun h => ?_) (fun h => ?_)
    · refine ⟨_, rfl, p, C, dx, _, _, _, rfl, hp3, R.cl, lim, lk2, _, rfl, fun dd hdd => he (by omega) _ dd (K3.trans (Same.keep (same_new hdd))) upd_same⟩
    -- solid
    refine ⟨_, rfl, p, C, dx, _, _, rfl, hp3, R.cl, R.nE, lkE1, d, pkE es, rfl, hd3, ok, by omega, fun H4 so s4 hso0 hso => ?_⟩
    have hp4 := s4 _ _ hp3
    refine ⟨_, rfl, p, C, dx, _, rfl, hp4, R.cl, R.nS, (by show 1 < 1000; decide), ?_⟩
    rw [put1]
    have nso : so ≠ p := Ne.symm (ne_of_none hp3 hso0)
    have hd5 : (upd H4 p (.ins C dx (pf2 d so))) d = some (.dK (kv (pkE es))) := by rw [upd_ne npd]; exact s4 _ _ hd3
    have hs5 : (upd H4 p (.ins C dx (pf2 d so))) so = some (.dK (kv (solidE (pkE es)))) := by rw [upd_ne nso]; exact hso
    have hp5 : (upd H4 p (.ins C dx (pf2 d so))) p = some (.ins C dx (pf2 d so)) := upd_same
    have K5 : Keep p H (upd H4 p (.ins C dx (pf2 d so))) := K3.trans (keep_put (Same.keep s4))
    generalize (upd H4 p (.ins C dx (pf2 d so))) = H5 at hd5 hs5 hp5 K5
    -- rooms
    refine ⟨_, rfl, p, C, dx, _, _, rfl, hp5, R.cl, R.nE, lkE1, d, pkE es, rfl, hd5, ok, by omega, fun H6 ro rs s6 hro0 hro hbr => ?_⟩
    have hp6 := s6 _ _ hp5
    refine ⟨_, rfl, p, C, dx, _, rfl, hp6, R.cl, R.nR, (by show 2 < 1000; decide), ?_⟩
    rw [put2]
    have rest6 : PkRest H6 ⟨so, ro, so, so⟩ (pkE es) := ⟨s6 _ _ hs5, rs, hro, hbr⟩
    have rest7 := rest6.keep (H' := upd H6 p (.ins C dx (pf3 d so ro))) hp6 ⟨(fun _ q => nomatch q), (fun _ q => nomatch q)⟩ (keep_put (Keep.refl _ _))
    have hd7 : (upd H6 p (.ins C dx (pf3 d so ro))) d = some (.dK (kv (pkE es))) := by rw [upd_ne npd]; exact s6 _ _ hd5
    have hp7 : (upd H6 p (.ins C dx (pf3 d so ro))) p = some (.ins C dx (pf3 d so ro)) := upd_same
    have K7 : Keep p H (upd H6 p (.ins C dx (pf3 d so ro))) := K5.trans (keep_put (Same.keep s6))
    generalize (upd H6 p (.ins C dx (pf3 d so ro))) = H7 at hd7 hp7 K7 rest7
    -- token
    intro t dt ht hdt ndt
    have s8 : Same H7 (upd (upd H7 dt (.own t)) t (.ins CT dt [])) := same_upd ht (same_new hdt)
    have npt : p ≠ t := ne_of_none hp7 ht
    generalize (upd (upd H7 dt (.own t)) t (.ins CT dt [])) = H8 at s8
    have hp8 := s8 _ _ hp7
    refine ⟨_, rfl, p, C, dx, _, rfl, hp8, R.cl, R.nT, (by show 3 < 1000; decide), ?_⟩
    rw [put3]
    have rest9 := (rest7.same s8).keep (H' := upd H8 p (.ins C dx (pf4 d so ro t))) hp8 ⟨(fun _ q => nomatch q), (fun _ q => nomatch q)⟩ (keep_put (Keep.refl _ _))
    have hd9 : (upd H8 p (.ins C dx (pf4 d so ro t))) d = some (.dK (kv (pkE es))) := by rw [upd_ne npd]; exact s8 _ _ hd7
    have hp9 : (upd H8 p (.ins C dx (pf4 d so ro t))) p = some (.ins C dx (pf4 d so ro t)) := upd_same
    have KF' : Keep p H (upd H8 p (.ins C dx (pf4 d so ro t))) := K7.trans (keep_put (Same.keep s8))
    generalize (upd H8 p (.ins C dx (pf4 d so ro t))) = H9 at hd9 hp9 KF' rest9
    -- notes
    intro n dn hn hdn ndn
    have sN : Same H9 (upd (upd H9 dn (.own n)) n (.ins CN dn [])) := same_upd hn (same_new hdn)
    have npn : p ≠ n := ne_of_none hp9 hn
    have hN : (upd (upd H9 dn (.own n)) n (.ins CN dn [])) n = some (.ins CN dn []) := upd_same
    refine ⟨n, dn, rfl, hN, fun Ha r kp hr0 hna hra => ⟨rfl, ?_⟩⟩
    have sa : Same H9 Ha := fun a o e => kp a o (ne_of_none e hn) (sN _ _ e)
    have hpa := sa _ _ hp9
    refine ⟨_, rfl, p, C, dx, _, rfl, hpa, R.cl, R.nN, (by show 4 < 1000; decide), ?_⟩
    rw [put4]
    have restA := (rest9.same sa).keep (H' := upd Ha p (.ins C dx (pkFs d ⟨so, ro, t, n⟩))) hpa ⟨(fun _ q => nomatch q), (fun _ q => nomatch q)⟩ (keep_put (Keep.refl _ _))
    exact hq (by omega) _ (KF'.trans (keep_put (Same.keep sa))) ⟨dx, d, ⟨⟨so, ro, t, n⟩, upd_same, ⟨restA.s, restA.r⟩⟩, by rw [upd_ne npd]; exact sa _ _ hd9⟩
  refine ⟨_, rfl, rfl, _, rfl, ?_⟩
  rcases hy with ⟨rfl, rfl⟩ | ⟨d, rfl, hd⟩
  · refine ifD (fun _ => ?_) (fun h => absurd rfl h)
    intro g hg
    exact main _ g (same_new hg) upd_same
  · refine ifD (fun h => nomatch h) (fun _ => ?_)
    exact ⟨_, rfl, main H d (Same.refl H) hd⟩
end
end KF

set_option Elab.async false
set_option linter.all false
set_option maxRecDepth 100000
set_option maxHeartbeats 4000000
namespace KF
open PySem PySem.Spec PyProof.Rows L2 LF
/-- the rest of a package's making, behind the look at how many entries there are -/
theorem init_tail {K : PySem.W.Frag} {mg : Str → Option Value} {C CT CN p dx d : Addr} {H H3 : Hp} {y z : Option V} {D : Ends} {es : List (Str × V)} (R : PkTxt K mg C) (ok : OkE es) (h40 : es.length ≤ 40)
    (hd3 : H3 d = some (.dK (kv es))) (hp3 : H3 p = some (.ins C dx (pf1 d))) (K3 : Keep p H H3) (npd : d ≠ p) (hq : ∀ H', Keep p H H' → PkAt C H' p es → D.nx [some (.ref p), y, z] H') :
    tSeq (sFld K (tVar 0) (tCall spSolid [] E0 (tCons (tFld K (tVar 0) "entries") tNil)) "solid")
      (tSeq (sFld K (tVar 0) (tCall spWithin [] E0 (tCons (tFld K (tVar 0) "entries") tNil)) "rooms")
      (tSeq (sFld K (tVar 0) (tMake0 CT) "token")
      (sFld K (tVar 0) (tMake CN (spNote CN) [] E0 tNil) "notes"))) D [some (.ref p), y, z] H3 := by
  -- solid
  refine ⟨_, rfl, p, C, dx, _, _, rfl, hp3, R.cl, R.nE, lkE1, d, es, rfl, hd3, ok, by omega, fun H4 so s4 hso0 hso => ?_⟩
  have hp4 := s4 _ _ hp3
  refine ⟨_, rfl, p, C, dx, _, rfl, hp4, R.cl, R.nS, (by show 1 < 1000; decide), ?_⟩
  rw [put1]
  have nso : so ≠ p := Ne.symm (ne_of_none hp3 hso0)
  have hd5 : (upd H4 p (.ins C dx (pf2 d so))) d = some (.dK (kv es)) := by rw [upd_ne npd]; exact s4 _ _ hd3
  have hs5 : (upd H4 p (.ins C dx (pf2 d so))) so = some (.dK (kv (solidE es))) := by rw [upd_ne nso]; exact hso
  have hp5 : (upd H4 p (.ins C dx (pf2 d so))) p = some (.ins C dx (pf2 d so)) := upd_same
  have K5 : Keep p H (upd H4 p (.ins C dx (pf2 d so))) := K3.trans (keep_put (Same.keep s4))
  generalize (upd H4 p (.ins C dx (pf2 d so))) = H5 at hd5 hs5 hp5 K5
  -- rooms
  refine ⟨_, rfl, p, C, dx, _, _, rfl, hp5, R.cl, R.nE, lkE1, d, es, rfl, hd5, ok, by omega, fun H6 ro rs s6 hro0 hro hbr => ?_⟩
  have hp6 := s6 _ _ hp5
  refine ⟨_, rfl, p, C, dx, _, rfl, hp6, R.cl, R.nR, (by show 2 < 1000; decide), ?_⟩
  rw [put2]
  have rest6 : PkRest H6 ⟨so, ro, so, so⟩ es := ⟨s6 _ _ hs5, rs, hro, hbr⟩
  have rest7 := rest6.keep (H' := upd H6 p (.ins C dx (pf3 d so ro))) hp6 ⟨(fun _ q => nomatch q), (fun _ q => nomatch q)⟩ (keep_put (Keep.refl _ _))
  have hd7 : (upd H6 p (.ins C dx (pf3 d so ro))) d = some (.dK (kv es)) := by rw [upd_ne npd]; exact s6 _ _ hd5
  have hp7 : (upd H6 p (.ins C dx (pf3 d so ro))) p = some (.ins C dx (pf3 d so ro)) := upd_same
  have K7 : Keep p H (upd H6 p (.ins C dx (pf3 d so ro))) := K5.trans (keep_put (Same.keep s6))
  generalize (upd H6 p (.ins C dx (pf3 d so ro))) = H7 at hd7 hp7 K7 rest7
  -- token
  intro t dt ht hdt ndt
  have s8 : Same H7 (upd (upd H7 dt (.own t)) t (.ins CT dt [])) := same_upd ht (same_new hdt)
  have npt : p ≠ t := ne_of_none hp7 ht
  generalize (upd (upd H7 dt (.own t)) t (.ins CT dt [])) = H8 at s8
  have hp8 := s8 _ _ hp7
  refine ⟨_, rfl, p, C, dx, _, rfl, hp8, R.cl, R.nT, (by show 3 < 1000; decide), ?_⟩
  rw [put3]
  have rest9 := (rest7.same s8).keep (H' := upd H8 p (.ins C dx (pf4 d so ro t))) hp8 ⟨(fun _ q => nomatch q), (fun _ q => nomatch q)⟩ (keep_put (Keep.refl _ _))
  have hd9 : (upd H8 p (.ins C dx (pf4 d so ro t))) d = some (.dK (kv es)) := by rw [upd_ne npd]; exact s8 _ _ hd7
  have hp9 : (upd H8 p (.ins C dx (pf4 d so ro t))) p = some (.ins C dx (pf4 d so ro t)) := upd_same
  have KF' : Keep p H (upd H8 p (.ins C dx (pf4 d so ro t))) := K7.trans (keep_put (Same.keep s8))
  generalize (upd H8 p (.ins C dx (pf4 d so ro t))) = H9 at hd9 hp9 KF' rest9
  -- notes
  intro n dn hn hdn ndn
  have sN : Same H9 (upd (upd H9 dn (.own n)) n (.ins CN dn [])) := same_upd hn (same_new hdn)
  have npn : p ≠ n := ne_of_none hp9 hn
  have hN : (upd (upd H9 dn (.own n)) n (.ins CN dn [])) n = some (.ins CN dn []) := upd_same
  refine ⟨n, dn, rfl, hN, fun Ha r kp hr0 hna hra => ⟨rfl, ?_⟩⟩
  have sa : Same H9 Ha := fun a o e => kp a o (ne_of_none e hn) (sN _ _ e)
  have hpa := sa _ _ hp9
  refine ⟨_, rfl, p, C, dx, _, rfl, hpa, R.cl, R.nN, (by show 4 < 1000; decide), ?_⟩
  rw [put4]
  have restA := (rest9.same sa).keep (H' := upd Ha p (.ins C dx (pkFs d ⟨so, ro, t, n⟩))) hpa ⟨(fun _ q => nomatch q), (fun _ q => nomatch q)⟩ (keep_put (Keep.refl _ _))
  exact hq _ (KF'.trans (keep_put (Same.keep sa))) ⟨dx, d, ⟨⟨so, ro, t, n⟩, upd_same, ⟨restA.s, restA.r⟩⟩, by rw [upd_ne npd]; exact sa _ _ hd9⟩
end KF

set_option Elab.async false
set_option linter.all false
set_option maxRecDepth 100000
set_option maxHeartbeats 4000000
namespace LF
open PySem PySem.Spec PyProof.Rows L2
abbrev leS (a b : Str) : Prop := a.cps.toList ≤ b.cps.toList
theorem not_ltCps {a b : Str} (h : (!ltCps b.cps.toList a.cps.toList) = true) : leS a b := by
  rw [ltCps_eq, Bool.not_eq_true', decide_eq_false_iff_not] at h
  exact List.not_lt.mp h
theorem rising_pw : ∀ (l : List Str) (p : Str), risingS p l = true → (∀ x ∈ l, leS p x) ∧ l.Pairwise leS
  | [], _, _ => ⟨fun _ h => (nomatch h), .nil⟩
  | x :: r, p, h => by
    have h' : (!ltCps x.cps.toList p.cps.toList && risingS x r) = true := h
    rw [Bool.and_eq_true] at h'
    have h1 := not_ltCps h'.1
    obtain ⟨h2, h3⟩ := rising_pw r x h'.2
    refine ⟨fun y hy => ?_, .cons h2 h3⟩
    rcases List.mem_cons.mp hy with rfl | hy
    · exact h1
    · exact List.le_trans h1 (h2 y hy)
theorem sorted_pw {l : List Str} (h : sortedS l = true) : l.Pairwise leS := by
  cases l with
  | nil => exact .nil
  | cons x r =>
    obtain ⟨h1, h2⟩ := rising_pw r x h
    exact .cons h1 h2
theorem sorted_one {l m : List Str} (hl : sortedS l = true) (hm : sortedS m = true) (hp : l.Perm m) : l = m :=
  List.Perm.eq_of_pairwise (le := leS) (fun a b _ _ h1 h2 => str_of_cps' (List.le_antisymm h1 h2)) (sorted_pw hl) (sorted_pw hm) hp
where str_of_cps' {x y : Str} (h : x.cps.toList = y.cps.toList) : x = y := PySem.W.str_of_cps h
end LF

set_option Elab.async false
set_option linter.all false
set_option maxRecDepth 100000
set_option maxHeartbeats 4000000
namespace LF
open PySem PySem.Spec PyProof.Rows L2
/-- a walk whose rule hangs on what is walked -/
theorem PI.or {X : Cx} {tg e : Expr} {u v : TI} (a : PI X tg e u) (b : PI X tg e v) : PI X tg e (fun σ H R => u σ H R ∨ v σ H R) :=
  ⟨fun pins s σ H R I h => h.elim (a.run pins s σ H R I) (b.run pins s σ H R I)⟩
end LF
namespace KF
open PySem PySem.Spec PyProof.Rows L2 LF
def jn (p n : Str) : Str := if p = "" then n else p ++ "/" ++ n
def spJn : Sp := fun vs H Q _ => ∃ p n : Str, vs = [.str p, .str n] ∧ p.length ≤ 100000 ∧ n.length ≤ 100000 ∧ ∀ H', Same H H' → Q (.str (jn p n)) H'
abbrev s_joined : Stmt := topS 16
abbrev N_joined : List Str := ["path", "name"]
theorem sc_joined : FnScope ["path", "name"] ["path", "name"] (defScope s_joined) := ⟨rfl, rfl, rfl, by decide +kernel, rfl, by decide +kernel, by decide +kernel⟩
theorem empty_ap (x : Str) : Str.empty ++ x = x := TL.ext_tl (by rw [TL.tl_append]; rfl)
/-! what the packages have at each path -/
abbrev IR := Str × Addr × List V
def ikv (rs : List IR) : List (Key × V) := rs.map fun r => (.inr r.1, .ref r.2.1)
structure Its (H : Hp) (q : Addr) (rs : List IR) : Prop where
  d : H q = some (.dK (ikv rs))
  l : ∀ x ∈ rs, H x.2.1 = some (.lst x.2.2)
theorem Its.same {H H' : Hp} {q : Addr} {rs : List IR} (h : Its H q rs) (s : Same H H') : Its H' q rs := ⟨s _ _ h.d, fun x hx => s _ _ (h.l x hx)⟩
def bareI (rs : List IR) : List (Str × List V) := rs.map fun r => (r.1, r.2.2)
def addI (its : List (Str × List V)) (e : Str × V) : List (Str × List V) := if e.1 ∈ its.map (·.1) then its.map (fun r => if r.1 = e.1 then (r.1, r.2 ++ [e.2]) else r) else its ++ [(e.1, [e.2])]
def itemsP (its : List (Str × List V)) (es : List (Str × V)) : List (Str × List V) := es.foldl addI its
def itemsE (fs : List (Str × List (Str × V))) : List (Str × List V) := fs.foldl (fun its f => itemsP its f.2) []
/-- a farm's packages, by their names in order -/
structure FarmOk (fs : List (Str × List (Str × V))) : Prop where
  le : sortedS (fs.map (·.1)) = true
  nd : (fs.map (·.1)).Nodup
  ok : ∀ f ∈ fs, OkE f.2 ∧ f.2.length ≤ 40
  n : fs.length ≤ 6
def FarmA (C : Addr) (H : Hp) (pk : Addr) (fs : List (Str × List (Str × V))) : Prop := ∃ (kvs : List (Key × V)) (ks : List Str), H pk = some (.dK kvs) ∧ kvs.map (·.1) = ks.map Sum.inr ∧ ks.Perm (fs.map (·.1)) ∧ ∀ f ∈ fs, ∃ p, valV kvs (.inr f.1) = some (.ref p) ∧ PkAt C H p f.2
theorem FarmA.same {C pk : Addr} {H H' : Hp} {fs : List (Str × List (Str × V))} (h : FarmA C H pk fs) (s : Same H H') : FarmA C H' pk fs := by
  obtain ⟨kvs, ks, h1, h2, h3, h4⟩ := h
  exact ⟨kvs, ks, s _ _ h1, h2, h3, fun f hf => let ⟨p, a, b⟩ := h4 f hf; ⟨p, a, b.same s⟩⟩
theorem itemsP_next {its : List (Str × List V)} {es : List (Str × V)} {i : Nat} {e : Str × V} (h : es[i]? = some e) : itemsP its (es.take (i + 1)) = addI (itemsP its (es.take i)) e := by
  unfold itemsP
  rw [List.take_add_one, h, List.foldl_append]; rfl
theorem itemsE_next {fs : List (Str × List (Str × V))} {i : Nat} {f : Str × List (Str × V)} (h : fs[i]? = some f) : itemsE (fs.take (i + 1)) = itemsP (itemsE (fs.take i)) f.2 := by
  unfold itemsE
  rw [List.take_add_one, h, List.foldl_append]; rfl
theorem addI_keys (its : List (Str × List V)) (e : Str × V) : (addI its e).map (·.1) = if e.1 ∈ its.map (·.1) then its.map (·.1) else its.map (·.1) ++ [e.1] := by
  unfold addI
  split
  · rw [List.map_map]
    refine List.map_congr_left fun r _ => ?_
    show (if r.1 = e.1 then (r.1, r.2 ++ [e.2]) else r).1 = r.1
    split <;> rfl
  · rw [List.map_append]; rfl
theorem addI_nd {its : List (Str × List V)} {e : Str × V} (h : (its.map (·.1)).Nodup) : ((addI its e).map (·.1)).Nodup := by
  rw [addI_keys]
  split
  · exact h
  · rename_i hn
    rw [List.nodup_append]
    exact ⟨h, by simp, fun a ha b hb => by obtain rfl := List.mem_singleton.mp hb; exact fun z => hn (z ▸ ha)⟩
theorem itemsP_nd : ∀ {es : List (Str × V)} {its : List (Str × List V)}, (its.map (·.1)).Nodup → ((itemsP its es).map (·.1)).Nodup
  | [], _, h => h
  | e :: es, its, h => itemsP_nd (es := es) (its := addI its e) (addI_nd h)
/-- sizes: n entries so far -/
structure SzI (its : List (Str × List V)) (n : Nat) : Prop where
  k : its.length ≤ n
  v : ∀ r ∈ its, r.2.length ≤ n ∧ ∀ x ∈ r.2, Plain x ∧ itemV x = true
  p : ∀ r ∈ its, isPl r.1 = true ∧ r.1.length ≤ 1000000
theorem SzI.add {its : List (Str × List V)} {n : Nat} {e : Str × V} (h : SzI its n) (hv : Plain e.2 ∧ itemV e.2 = true) (hp : isPl e.1 = true ∧ e.1.length ≤ 1000000) : SzI (addI its e) (n + 1) := by
  unfold addI
  split
  · refine ⟨by rw [List.length_map]; exact Nat.le_succ_of_le h.k, fun r hr => ?_, fun r hr => ?_⟩
    · obtain ⟨y, hy, rfl⟩ := List.mem_map.mp hr
      obtain ⟨h1, h2⟩ := h.v y hy
      split
      · refine ⟨by show (y.2 ++ [e.2]).length ≤ n + 1; rw [List.length_append]; simp; omega, fun x hx => ?_⟩
        rcases List.mem_append.mp hx with hx | hx
        · exact h2 x hx
        · obtain rfl := List.mem_singleton.mp hx; exact hv
      · exact ⟨by omega, h2⟩
    · obtain ⟨y, hy, rfl⟩ := List.mem_map.mp hr
      have := h.p y hy
      split <;> exact this
  · refine ⟨by rw [List.length_append]; simp; exact h.k, fun r hr => ?_, fun r hr => ?_⟩
    · rcases List.mem_append.mp hr with hr | hr
      · obtain ⟨h1, h2⟩ := h.v r hr
        exact ⟨by omega, h2⟩
      · obtain rfl := List.mem_singleton.mp hr
        exact ⟨by show 1 ≤ n + 1; omega, fun x hx => by obtain rfl := List.mem_singleton.mp hx; exact hv⟩
    · rcases List.mem_append.mp hr with hr | hr
      · exact h.p r hr
      · obtain rfl := List.mem_singleton.mp hr; exact hp
theorem SzI.adds : ∀ {es : List (Str × V)} {its : List (Str × List V)} {n : Nat}, SzI its n → (∀ e ∈ es, (Plain e.2 ∧ itemV e.2 = true) ∧ isPl e.1 = true ∧ e.1.length ≤ 1000000) → SzI (itemsP its es) (n + es.length)
  | [], _, n, h, _ => h
  | e :: es, its, n, h, he => by
    have h1 := he e List.mem_cons_self
    have := SzI.adds (es := es) (its := addI its e) (n := n + 1) (h.add h1.1 h1.2) fun e he' => he e (List.mem_cons_of_mem _ he')
    rw [List.length_cons]
    rw [show n + (es.length + 1) = n + 1 + es.length by omega]
    exact this
theorem farm_sz : ∀ {fs : List (Str × List (Str × V))} {its : List (Str × List V)} {n : Nat}, SzI its n → (its.map (·.1)).Nodup → (∀ f ∈ fs, OkE f.2 ∧ f.2.length ≤ 40) → SzI (fs.foldl (fun its f => itemsP its f.2) its) (n + 40 * fs.length) ∧ ((fs.foldl (fun its f => itemsP its f.2) its).map (·.1)).Nodup
  | [], _, n, h, nd, _ => ⟨h, nd⟩
  | f :: fs, its, n, h, nd, ok => by
    obtain ⟨o1, o2⟩ := ok f List.mem_cons_self
    have h1 : SzI (itemsP its f.2) (n + 40) := by
      have := h.adds (es := f.2) fun e he => ⟨o1.it e he, o1.pl e he⟩
      exact ⟨by have := this.k; omega, fun r hr => ⟨by have := (this.v r hr).1; omega, (this.v r hr).2⟩, this.p⟩
    have := farm_sz (fs := fs) h1 (itemsP_nd nd) fun f hf => ok f (List.mem_cons_of_mem _ hf)
    rw [List.length_cons]
    rw [show n + 40 * (fs.length + 1) = n + 40 + 40 * fs.length by omega]
    exact this
theorem items_sz {fs : List (Str × List (Str × V))} (h : FarmOk fs) : SzI (itemsE fs) 240 ∧ ((itemsE fs).map (·.1)).Nodup := by
  obtain ⟨a, b⟩ := farm_sz (fs := fs) (its := []) (n := 0) ⟨Nat.zero_le _, fun _ h => (nomatch h), fun _ h => (nomatch h)⟩ .nil h.ok
  have hn := h.n
  refine ⟨⟨?_, fun r hr => ⟨?_, (a.v r hr).2⟩, a.p⟩, b⟩
  · have h1 : (itemsE fs).length ≤ 0 + 40 * fs.length := a.k
    omega
  · have := (a.v r hr).1; omega
theorem val_ikv {rs : List IR} (nd : (rs.map (·.1)).Nodup) {x : IR} (h : x ∈ rs) : valV (ikv rs) (.inr x.1) = some (.ref x.2.1) := by
  have := val_mem (es := rs.map fun r => (r.1, V.ref r.2.1)) (p := x.1) (v := .ref x.2.1) (by rw [List.map_map]; exact nd) (List.mem_map.mpr ⟨x, h, rfl⟩)
  unfold kv at this
  rw [List.map_map] at this
  exact this
theorem val_ikv_no {rs : List IR} {p : Str} (h : p ∉ rs.map (·.1)) : valV (ikv rs) (.inr p) = none := by
  have := val_no (es := rs.map fun r => (r.1, V.ref r.2.1)) (p := p) (by rw [List.map_map]; exact h)
  unfold kv at this
  rw [List.map_map] at this
  exact this
def addR (rs : List IR) (e : Str × V) : List IR := rs.map fun r => if r.1 = e.1 then (r.1, r.2.1, r.2.2 ++ [e.2]) else r
theorem addR_kv (rs : List IR) (e : Str × V) : ikv (addR rs e) = ikv rs := by
  unfold ikv addR
  rw [List.map_map]
  refine List.map_congr_left fun r _ => ?_
  show (Sum.inr (if r.1 = e.1 then (r.1, r.2.1, r.2.2 ++ [e.2]) else r).1, V.ref (if r.1 = e.1 then (r.1, r.2.1, r.2.2 ++ [e.2]) else r).2.1) = _
  split <;> rfl
theorem addR_ad (rs : List IR) (e : Str × V) : (addR rs e).map (·.2.1) = rs.map (·.2.1) := by
  unfold addR
  rw [List.map_map]
  refine List.map_congr_left fun r _ => ?_
  show (if r.1 = e.1 then (r.1, r.2.1, r.2.2 ++ [e.2]) else r).2.1 = _
  split <;> rfl
theorem addR_bare (rs : List IR) (e : Str × V) : bareI (addR rs e) = (bareI rs).map fun r => if r.1 = e.1 then (r.1, r.2 ++ [e.2]) else r := by
  unfold bareI addR
  rw [List.map_map, List.map_map]
  refine List.map_congr_left fun r _ => ?_
  show ((if r.1 = e.1 then (r.1, r.2.1, r.2.2 ++ [e.2]) else r).1, (if r.1 = e.1 then (r.1, r.2.1, r.2.2 ++ [e.2]) else r).2.2) = (if r.1 = e.1 then (r.1, r.2.2 ++ [e.2]) else (r.1, r.2.2))
  split <;> rfl
theorem bareI_keys (rs : List IR) : (bareI rs).map (·.1) = rs.map (·.1) := by unfold bareI; rw [List.map_map]; rfl
theorem Its.add {H : Hp} {q : Addr} {rs : List IR} (h : Its H q rs) (nk : (rs.map (·.1)).Nodup) (na : (rs.map (·.2.1)).Nodup) {x : IR} (hx : x ∈ rs) (v : V) :
    Its (upd H x.2.1 (.lst (x.2.2 ++ [v]))) q (addR rs (x.1, v)) := by
  have nr : q ≠ x.2.1 := ne_of h.d (h.l x hx) (by intro z; cases z)
  refine ⟨by rw [upd_ne nr, addR_kv]; exact h.d, fun y hy => ?_⟩
  obtain ⟨z, hz, rfl⟩ := List.mem_map.mp hy
  by_cases hzx : z.1 = x.1
  · obtain rfl := nd_inj nk hz hx hzx
    rw [if_pos rfl]
    exact upd_same
  · rw [if_neg hzx]
    have : z.2.1 ≠ x.2.1 := fun e => hzx (by rw [nd_inj na hz hx e])
    rw [upd_ne this]
    exact h.l z hz
def spItems (C : Addr) : Sp := fun vs H Q _ => ∃ (pk : Addr) (fs : List (Str × List (Str × V))), vs = [.ref pk] ∧ FarmA C H pk fs ∧ FarmOk fs ∧ ∀ H' q rs, Same H H' → H q = none → Its H' q rs → bareI rs = itemsE fs → Q (.ref q) H'
abbrev s_items_by_place : Stmt := topS 24
abbrev N_items_by_place : List Str := ["packages", "items", "name", "entries", "path"]
theorem sc_items_by_place : FnScope ["packages", "items", "name", "entries", "path"] ["packages"] (defScope s_items_by_place) := ⟨rfl, rfl, rfl, by decide +kernel, rfl, by decide +kernel, by decide +kernel⟩
section
variable {P : Program} {w : World} {K : PySem.W.Frag} {mg : Str → Option Value} {base : Heap} {tk1 tk2 : Tok}
theorem ok_joined {f : Addr} {fd : FuncData} (F : Fun K "joined" "joined" s_joined f fd) : FnOk P w K mg base CX0 1 f fd ["path", "name"] spJn := by
  refine F.ok sc_joined (fun vs H Q E h => ?_) (fun cdv A outer s H vs Q E hr h => ?_)
  · obtain ⟨p, n, rfl, _⟩ := h
    rfl
  refine ⟨_, (pss_cons (ps_if (pt_cmpR op_eq (pv 0) pe_str (nomark _)) (pss_one (ps_ret (pv 1))) pss_nil)
    (pss_one (ps_ret (pe_joined (PJ.cons (pe_fmt (pv 0)) (PJ.cons pe_str (PJ.cons (pe_fmt (pv 1)) PJ.nil))))))), ?_⟩
  obtain ⟨p, n, rfl, hp, hn, hq⟩ := h
  have big2 : 3000000 ≤ sizeLine := by decide
  have hQ := hq H (Same.refl H)
  have a1 : ("/" : Str).length = 1 := by decide +kernel
  have l0 : Str.empty.length = 0 := rfl
  have lap : ∀ a b : Str, (a ++ b).length = a.length + b.length := fun a b => len_app a b
  refine ⟨_, rfl, rfl, _, rfl, ?_⟩
  rw [str_dec]
  unfold jn at hQ
  refine ifD (fun h1 => ?_) (fun h1 => ?_)
  · rw [if_pos h1] at hQ
    exact ⟨_, rfl, hQ⟩
  · rw [if_neg h1] at hQ
    refine ⟨_, rfl, Or.inl ⟨p, rfl, by omega, _, rfl, by rw [lap, l0]; omega, _, rfl, by rw [lap, lap, l0]; omega, ?_⟩⟩
    refine ⟨_, rfl, Or.inl ⟨n, rfl, by omega, _, rfl, by rw [lap, lap, lap, l0]; omega, ?_⟩⟩
    show Q (.str (Str.empty ++ p ++ "/" ++ n)) H
    rw [empty_ap]
    exact hQ
end
end KF

set_option Elab.async false
set_option linter.all false
set_option maxRecDepth 100000
set_option maxHeartbeats 8000000
namespace KF
open PySem PySem.Spec PyProof.Rows L2 LF
section
variable {P : Program} {w : World} {K : PySem.W.Frag} {mg : Str → Option Value} {base : Heap} {tk1 tk2 : Tok}
theorem ok_items {f C : Addr} {fd : FuncData} (F : Fun K "items_by_place" "items_by_place" s_items_by_place f fd) (T : Txt K mg tk1 tk2) (R : PkTxt K mg C) : FnOk P w K mg base CX0 1 f fd ["packages"] (spItems C) := by
  refine F.ok sc_items_by_place (fun vs H Q E h => ?_) (fun cdv A outer s H vs Q E hr h => ?_)
  · obtain ⟨pk, fs, rfl, _⟩ := h
    rfl
  have hu1 := hu_of hr
  refine ⟨_, (pss_cons (ps_set (i := 1) sc_items_by_place.nd rfl (Or.inl rfl) pe_dnewK)
    (pss_cons (ps_for PassesOwn.never rfl (pi_list (pe_callB (call_sortedD rfl) (by rfl) T.n_sorted (by decide +kernel) (pa_cons (pv 0) pa_nil))) (pg_name (i := 2) sc_items_by_place.nd rfl (Or.inl rfl)) (pss_cons (ps_set (i := 3) sc_items_by_place.nd rfl (Or.inl rfl) (pe_fld (pe_dget hu1 (pv 0) (pv 2) (fun _ _ => rfl)) rfl))
    (pss_one (ps_lock (ps_for PassesOwn.never rfl (pi_keys (pv 3)) (pg_name (i := 4) sc_items_by_place.nd rfl (Or.inl rfl)) (pss_one (ps_expr (pe_bm PySem.F.plainAttrs_list PySem.F.slot_list_append PySem.F.type_list_append mt_append (pe_dsetd (pv 1) (pv 4) (pe_lst pa_nil) ⟨rfl, rfl, rfl, rfl⟩) (pa_cons (pe_dget hu1 (pv 3) (pv 4) (fun _ _ => rfl)) pa_nil)))))))))
    (pss_one (ps_ret (pv 1))))), ?_⟩
  obtain ⟨pk, fs, rfl, hfm, fok, hq⟩ := h
  have hbig := sizeLine_big
  obtain ⟨kvs, ks, hpk, hks, hperm, hall⟩ := id hfm
  have hkl : ks.length = fs.length := by rw [hperm.length_eq, List.length_map]
  have hfn := fok.n
  intro q hq0
  have hpk1 : (upd H q (.dK [])) pk = some (.dK kvs) := by rw [upd_ne (ne_of_none hpk hq0)]; exact hpk
  refine ⟨_, rfl, pk, kvs, ks, rfl, Or.inl hpk1, hks, by omega, fun ys p hp1 hs1 hp => ?_⟩
  obtain rfl : ys = fs.map (·.1) := sorted_one hs1 fok.le (hp1.trans hperm)
  have npq : q ≠ p := ne_of_none upd_same hp
  have hp0 : H p = none := by rw [upd_ne npq.symm] at hp; exact hp
  refine ⟨p, rfl, ⟨_, SqL.of upd_same⟩, ?_⟩
  have hL0 : ∀ a o, (upd H p (.lst ((fs.map (·.1)).map V.str))) a = some o → (upd (upd H q (.dK [])) p (.lst ((fs.map (·.1)).map V.str))) a = some o := fun a o e => by
    by_cases ha : a = p
    · subst ha; rw [upd_same] at e ⊢; exact e
    · rw [upd_ne ha] at e
      rw [upd_ne ha, upd_ne (ne_of_none e hq0)]; exact e
  have hqd : (upd (upd H q (.dK [])) p (.lst ((fs.map (·.1)).map V.str))) q = some (.dK []) := by rw [upd_ne npq, upd_same]
  generalize (upd (upd H q (.dK [])) p (.lst ((fs.map (·.1)).map V.str))) = G at hL0 hqd
  have sHL : Same H (upd H p (.lst ((fs.map (·.1)).map V.str))) := same_new hp0
  have hLp : (upd H p (.lst ((fs.map (·.1)).map V.str))) p = some (.lst ((fs.map (·.1)).map V.str)) := upd_same
  have hLq : (upd H p (.lst ((fs.map (·.1)).map V.str))) q = none := by rw [upd_ne npq]; exact hq0
  generalize (upd H p (.lst ((fs.map (·.1)).map V.str))) = L at hL0 sHL hLp hLq
  refine for_it (walk_list (xs := (fs.map (·.1)).map V.str)) (fun i σ H' => ∃ (rs : List IR) (v2 v3 v4 : Option V), σ = [some (.ref pk), some (.ref q), v2, v3, v4] ∧ Same L H' ∧ Its H' q rs ∧ bareI rs = itemsE (fs.take i) ∧ (rs.map (·.2.1)).Nodup ∧ ∀ x ∈ rs, L x.2.1 = none)
    ⟨[], none, none, none, rfl, hL0, ⟨hqd, fun _ h => (nomatch h)⟩, rfl, .nil, fun _ h => (nomatch h)⟩ (fun i σ H' _ ⟨_, _, _, _, _, sm, _⟩ => SqL.of (sm _ _ hLp)) ?_ ?_
  · rintro i x σ H1 H2 hi ⟨rs, v2, v3, v4, rfl, sm, rm, br, na, fr⟩ ⟨rfl, hx⟩
    rw [List.getElem?_map, List.getElem?_map] at hx
    cases e' : fs[i]? with
    | none => rw [e'] at hx; cases hx
    | some ff =>
    rw [e'] at hx
    obtain ⟨nm, es⟩ := ff
    cases (show some (V.str nm) = some x from hx)
    have hmem := List.mem_of_getElem? e'
    obtain ⟨okE, hes⟩ := fok.ok _ hmem
    obtain ⟨pp, hpv, hpa⟩ := hall _ hmem
    have hes : es.length ≤ 40 := hes
    obtain ⟨dx, d, ⟨xx, hi1, _⟩, hd⟩ := id (hpa.same (sHL.trans sm))
    obtain ⟨_, d0, ⟨_, hi0, _⟩, hd0⟩ := id (hpa.same sHL)
    have hpkx : H2 pk = some (.dK kvs) := sm _ _ (sHL _ _ hpk)
    refine ⟨_, rfl, _, rfl, pk, .ref pp, rfl, by have := DGet.k (k := Sum.inr nm) hpkx; rw [hpv] at this; exact this, ?_⟩
    refine ⟨pp, C, dx, _, _, rfl, hi1, R.cl, R.nE, lk_entries d, ?_⟩
    refine ⟨d, _, hd, True.intro, fun od => ?_⟩
    refine ⟨_, rfl, d, od, rfl, Or.inl ⟨kv es, upd_same, ?_⟩⟩
    -- the package's entries stand in L
    have hdL : L d = some (.dK (kv es)) := by
      have h0 := sm _ _ hi0
      rw [hi1] at h0
      have h1 := congrArg (fun o : Option HO => o) h0
      injection h1 with h1
      injection h1 with _ _ h1
      unfold pkFs at h1
      injection h1 with h1 _
      injection h1 with _ h1
      injection h1 with h1
      subst h1
      exact hd0
    have nqd : q ≠ d := fun z => by rw [z, hdL] at hLq; cases hLq
    have hs0 : ∀ H', Same (upd L d (.frz od (.dK (kv es)))) H' → Same L (upd H' d (.dK (kv es))) := fun H' s' => same_unlock hdL s'
    have hlk : (upd L d (.frz od (.dK (kv es)))) d = some (.frz od (.dK (kv es))) := upd_same
    have sL : Same (upd L d (.frz od (.dK (kv es)))) (upd H2 d (.frz od (.dK (kv es)))) := by
      intro a o e
      by_cases ha : a = d
      · subst ha; rw [upd_same] at e ⊢; exact e
      · rw [upd_ne ha] at e ⊢; exact sm _ _ e
    have rL : Its (upd H2 d (.frz od (.dK (kv es)))) q rs := by
      refine ⟨by rw [upd_ne nqd]; exact rm.d, fun x hx => ?_⟩
      have : x.2.1 ≠ d := fun z => by have := fr x hx; rw [z, hdL] at this; cases this
      rw [upd_ne this]; exact rm.l x hx
    have fr0 : ∀ a, L a = none → (upd L d (.frz od (.dK (kv es)))) a = none := fun a e => by rw [upd_ne (Ne.symm (ne_of_none hdL e))]; exact e
    have fb : ∀ a, (upd L d (.frz od (.dK (kv es)))) a = none → L a = none := fun a e => by
      by_cases ha : a = d
      · subst ha; rw [upd_same] at e; cases e
      · rw [upd_ne ha] at e; exact e
    generalize (upd H2 d (.frz od (.dK (kv es)))) = G1 at sL rL
    generalize (upd L d (.frz od (.dK (kv es)))) = LL at hs0 hlk fr0 sL fb
    have hekl : (kv es).length = es.length := by unfold kv; rw [List.length_map]
    -- sizes
    obtain ⟨szI, ndI⟩ := farm_sz (fs := fs.take i) (its := []) (n := 0) ⟨Nat.zero_le _, fun _ h => (nomatch h), fun _ h => (nomatch h)⟩ .nil fun f hf => fok.ok f (List.mem_of_mem_take hf)
    have szI : SzI (itemsE (fs.take i)) (0 + 40 * (fs.take i).length) := szI
    have ndI : ((itemsE (fs.take i)).map (·.1)).Nodup := ndI
    have htl : (fs.take i).length ≤ 6 := by rw [List.length_take]; omega
    refine for_it walk_keys (fun j σ H' => ∃ (rs : List IR) (v4 : Option V), σ = [some (.ref pk), some (.ref q), some (.str nm), some (.ref d), v4] ∧ Same LL H' ∧ Its H' q rs ∧ bareI rs = itemsP (itemsE (fs.take i)) (es.take j) ∧ (rs.map (·.2.1)).Nodup ∧ ∀ x ∈ rs, L x.2.1 = none)
      ⟨rs, v4, rfl, sL, rL, br, na, fr⟩ (fun i σ H' _ ⟨_, _, _, sm, _⟩ => sm _ _ hlk) ?_ ?_
    · rintro j x σ H3 H4 hj ⟨rs, v4, rfl, sm, rm, br, na, fr⟩ ⟨rfl, k, v, hk, rfl⟩
      obtain ⟨pth, rfl, hie, hm⟩ := kv_get hk
      have hv := val_mem okE.nd hm
      have szJ := szI.adds (es := es.take j) fun e he => ⟨okE.it e (List.mem_of_mem_take he), okE.pl e (List.mem_of_mem_take he)⟩
      have ndJ : ((itemsP (itemsE (fs.take i)) (es.take j)).map (·.1)).Nodup := itemsP_nd ndI
      have htj : (es.take j).length ≤ 40 := by rw [List.length_take]; omega
      rw [← br] at szJ ndJ
      rw [bareI_keys] at ndJ
      have hrl : rs.length ≤ 280 := by
        have := szJ.k
        unfold bareI at this
        rw [List.length_map] at this; omega
      have next := itemsP_next (its := itemsE (fs.take i)) hie
      have fin : ∀ (rs' : List IR) (H6 : Hp), Same LL H6 → Its H6 q rs' → bareI rs' = itemsP (itemsE (fs.take i)) (es.take j) ∨ True → (bareI rs' = addI (itemsP (itemsE (fs.take i)) (es.take j)) (pth, v)) → (rs'.map (·.2.1)).Nodup → (∀ x ∈ rs', L x.2.1 = none) →
          ∃ (rs : List IR) (v4 : Option V), [some (.ref pk), some (.ref q), some (.str nm), some (.ref d), some (.str pth)] = [some (.ref pk), some (.ref q), some (.str nm), some (.ref d), v4] ∧ Same LL H6 ∧ Its H6 q rs ∧ bareI rs = itemsP (itemsE (fs.take i)) (es.take (j + 1)) ∧ (rs.map (·.2.1)).Nodup ∧ ∀ x ∈ rs, L x.2.1 = none :=
        fun rs' H6 a b _ c d' e => ⟨rs', _, rfl, a, b, by rw [next]; exact c, d', e⟩
      refine ⟨_, rfl, q, rfl, Or.inl ⟨_, Or.inl rm.d⟩, _, rfl, Nat.zero_le _, fun l hl => ?_⟩
      have nlq : q ≠ l := ne_of_none rm.d hl
      have rml := rm.same (same_new (o := .lst []) hl)
      have sml := sm.trans (same_new (o := .lst []) hl)
      have hll : (upd H4 l (.lst [])) l = some (.lst []) := upd_same
      have hlL : L l = none := fb l (sm.free hl)
      have nal : ∀ x ∈ rs, x.2.1 ≠ l := fun x hx => ne_of_none (rm.l x hx) hl
      generalize (upd H4 l (.lst [])) = H5 at rml sml hll
      refine ⟨ikv rs, .inr pth, rml.d, rfl, by unfold ikv; rw [List.length_map]; omega, fun u hu => ?_, fun hno => ?_⟩
      · -- the path is known
        have hin : pth ∈ rs.map (·.1) := by
          by_cases h : pth ∈ rs.map (·.1)
          · exact h
          · rw [val_ikv_no h] at hu; cases hu
        obtain ⟨r, hr1, rfl⟩ := List.mem_map.mp hin
        rw [val_ikv ndJ hr1] at hu
        cases hu
        have hlst := rml.l r hr1
        have hsz : r.2.2.length ≤ 280 := by
          have := (szJ.v (r.1, r.2.2) (List.mem_map.mpr ⟨r, hr1, rfl⟩)).1
          have : r.2.2.length ≤ 0 + 40 * (fs.take i).length + (es.take j).length := this
          omega
        refine ⟨.inl ⟨rfl, _, SqL.of hlst⟩, _, rfl, _, rfl, d, v, rfl, .inl ⟨kv es, .inr r.1, .inr ⟨od, sml _ _ hlk⟩, rfl, hv.symm⟩, r.2.1, _, _, rfl, rfl, hlst, by omega, ?_⟩
        have rma := rml.add ndJ na hr1 v
        refine fin _ _ (same_upd (fr0 _ (fr r hr1)) sml) rma (Or.inr True.intro) ?_ (by rw [addR_ad]; exact na) fun x hx => ?_
        · rw [addR_bare, br]
          unfold addI
          rw [if_pos]
          show r.1 ∈ _
          rw [← br, bareI_keys]
          exact hin
        · obtain ⟨y, hy, rfl⟩ := List.mem_map.mp hx
          have := fr y hy
          split <;> exact this
      · -- a new path
        have hni : pth ∉ rs.map (·.1) := fun h => by
          obtain ⟨r, hr1, rfl⟩ := List.mem_map.mp h
          rw [val_ikv ndJ hr1] at hno; cases hno
        have hl6 : (upd H5 q (.dK (putK (ikv rs) (.inr pth) (.ref l)))) l = some (.lst []) := by rw [upd_ne nlq.symm]; exact hll
        have s6 : Same LL (upd H5 q (.dK (putK (ikv rs) (.inr pth) (.ref l)))) := same_upd (fr0 _ hLq) sml
        refine ⟨.inl ⟨rfl, _, SqL.of hl6⟩, _, rfl, _, rfl, d, v, rfl, .inl ⟨kv es, .inr pth, .inr ⟨od, s6 _ _ hlk⟩, rfl, hv.symm⟩, l, _, _, rfl, rfl, hl6, by show 0 < sizeLine; decide, ?_⟩
        have hlLL : LL l = none := fr0 _ hlL
        refine fin (rs ++ [(pth, l, [v])]) _ (same_upd hlLL s6) ⟨?_, fun x hx => ?_⟩ (Or.inr True.intro) ?_ ?_ fun x hx => ?_
        · rw [upd_ne nlq, upd_same, putK_new _ hno]
          unfold ikv
          rw [List.map_append]; rfl
        · rcases List.mem_append.mp hx with hx | hx
          · have nx : x.2.1 ≠ q := ne_of (rml.l x hx) rml.d (by intro z; cases z)
            rw [upd_ne (nal x hx), upd_ne nx]; exact rml.l x hx
          · obtain rfl := List.mem_singleton.mp hx
            exact upd_same
        · unfold addI
          rw [← br]
          rw [if_neg (by rw [bareI_keys]; exact hni)]
          unfold bareI
          rw [List.map_append]; rfl
        · rw [List.map_append, List.nodup_append]
          refine ⟨na, by simp, fun a ha b hb => ?_⟩
          obtain ⟨x, hx, rfl⟩ := List.mem_map.mp ha
          obtain rfl : b = l := List.mem_singleton.mp hb
          exact nal x hx
        · rcases List.mem_append.mp hx with hx | hx
          · exact fr x hx
          · obtain rfl := List.mem_singleton.mp hx; exact hlL
    · rintro σ H3 ⟨rs, v4, rfl, sm, rm, br, na, fr⟩
      rw [hekl, List.take_length] at br
      refine ⟨sm _ _ hlk, rs, _, _, _, rfl, hs0 _ sm, ⟨by rw [upd_ne nqd]; exact rm.d, fun x hx => ?_⟩, by rw [itemsE_next e']; exact br, na, fr⟩
      have : x.2.1 ≠ d := fun z => by have := fr x hx; rw [z, hdL] at this; cases this
      rw [upd_ne this]; exact rm.l x hx
  · rintro σ H1 ⟨rs, v2, v3, v4, rfl, sm, rm, br, na, fr⟩
    rw [List.length_map, List.length_map, List.take_length] at br
    exact ⟨_, rfl, hq _ q rs (sHL.trans sm) hq0 rm br⟩
end
end KF

set_option Elab.async false
set_option linter.all false
set_option maxRecDepth 100000
set_option maxHeartbeats 8000000
namespace LF
open PySem PySem.Spec PyProof.Rows L2
section
variable {X : Cx}
theorem tyes_if {σ : L2.St} {H : Hp} {A B : Hp → Prop} (h : A H) : tYes σ H (fun b H3 => if b = true then A H3 else B H3) := by
  show (if true = true then A H else B H)
  exact iteT h
theorem sw_dc {kx vx : Expr} {cs : List Comprehension} {zs : Scope} {pz pn : Pos} {nm : Str} {ln : Nat} {ev : Env} (h1 : ev.scope.kind = .function) (h2 : ev.scope.names.lookup nm = some .local) (h3 : (pn.line == pz.line) = true)
    (h4 : (zs.names.any fun (n, k) => n == nm && (k == .local || k == .cell)) = false) : swapsWith (.DictComp kx vx cs zs pz) (some (.Name nm pn)) ln ev = pure true := by
  have k2 : ev.kindOf nm = some .local := h2
  have k1 : ev.blockKind = .function := by unfold Env.blockKind; rw [h1]; rfl
  unfold swapsWith
  simp only [k1, k2, h4, Expr.pos, h3]; rfl
/-- y = {k: v for .. for ..}, y a name of the def alone -/
theorem ps_setDc2 {j : Nat} {nm : Str} {pn : Pos} {kx vx ea pa eb pb : Expr} {fa fb : List Expr} {zs : Scope} {own : List (Str × Nat)} {vb : List Nat} {pz qz : Pos} {wa wb : TI} {ga gb : TG} {ta tb : TT} {tk tv : TE}
    (hc : X.calm = true) (hN : X.N.Nodup) (hj : X.N[j]? = some nm) (hl : X.env.scope.names.lookup nm = some .local) (hw : swapsWith (dcx kx vx ea pa eb pb fa fb zs pz) (some (.Name nm pn)) qz.line X.env = pure true) (hi : PI X ea pa wa) (bo : BlkOk X.N X.env.scope zs own) (hv : ∀ i ∈ vb, i ∈ own.map (·.2))
    (hga : atBlk X zs fun Y => PG Y ea ga) (hta : atBlk X zs fun Y => PTs Y fa ta) (hib : atBlk X zs fun Y => PI Y eb pb wb) (hgb : atBlk X zs fun Y => PG Y eb gb) (htb : atBlk X zs fun Y => PTs Y fb tb)
    (hk : atBlk X zs fun Y => PE Y kx tk) (hx : atBlk X zs fun Y => PE Y vx tv) (fla : ∀ x, foldedSetIterable pa X.env x = pure x := by intro _; rfl) (flb : ∀ ev x, foldedSetIterable pb ev x = pure x := by intro _ _; rfl) :
    PS X (.Assign [.Name nm pn] (dcx kx vx ea pa eb pb fa fb zs pz) qz) (tAsg (tDc2 wa ga ta wb gb tb tk tv (own.map (·.2)) vb) (gName j)) := by
  refine ⟨fun pins s σ H D I h0 => ?_⟩
  rw [exec_Assign_Name_used _ _ _ _ hw]
  refine wpAny_bind (wpAny_standAt (wpAny_bind ?_))
  show wpAny _ X.A (do let _ ← comprehension (dcx kx vx ea pa eb pb fa fb zs pz) zs X.env (firstIterPos [⟨ea, pa, fa, 0⟩, ⟨eb, pb, fb, 0⟩] pz) newDict false (eval pa X.env) (some (assign (.Name nm pn) X.env))) _ _ s
  have h : tDc2 wa ga ta wb gb tb tk tv (own.map (·.2)) vb σ H (fun x H1 => gName j x σ H1 D.nx) := h0
  refine wpAny_bind (thn (dc2_run (Qf := fun _ s' => SP X pins D .next s') hc hN I hi bo hv hga hta hib hgb htb hk hx fla flb h fun L C y m H' I' q hn f => ?_) fun _ _ q => wpAny_pure (wpAny_pure q))
  show wpAny _ _ (assign (.Name nm pn) X.env (.ref L)) _ _ _
  refine wpAny_assign_Name (store_ok2 (v := V.ref L) I' hN hj (.inl hl) rfl (fun z2 I2 ⟨a, sb, ha⟩ => ?_) (.inr hl))
  obtain ⟨g0, g1, g2, g3, g4, g5⟩ := f
  have ne : C ≠ a := by
    rcases ha with z | z
    · rw [z]; exact g1
    · exact fun e => g4 nm a z e.symm
  exact ⟨m, hn.sameBut sb ne, fun h3 sb3 => ⟨_, H', I2.turned (t' := z2.toks) (fun b o hb e => (sb3.2 b hb).trans e) g0 g1 g3 g4 g5, q⟩⟩
end
end LF
namespace KF
open PySem PySem.Spec PyProof.Rows L2 LF
/-! dicts that are sets of texts -/
def kvT (dk : List Str) : List (Key × V) := dk.map fun t => (.inr t, .bl true)
def addT (dk : List Str) (t : Str) : List Str := if t ∈ dk then dk else dk ++ [t]
def fnd (l : List Str) : List Str := l.foldl addT []
theorem fnd_app (l m : List Str) : fnd (l ++ m) = m.foldl addT (fnd l) := by unfold fnd; rw [List.foldl_append]
theorem kvT_kv (dk : List Str) : kvT dk = kv (dk.map fun t => (t, V.bl true)) := by unfold kvT kv; rw [List.map_map]; rfl
theorem val_kvT_in {dk : List Str} {t : Str} (h : t ∈ dk) : valV (kvT dk) (.inr t) = some (.bl true) := by
  induction dk with
  | nil => cases h
  | cons a l ih =>
    unfold valV kvT
    rw [List.map_cons, List.find?_cons]
    by_cases ha : a = t
    · subst ha
      rw [show decide ((Sum.inr a : Key) = Sum.inr a) = true from decide_eq_true rfl]; rfl
    · rw [show decide ((Sum.inr a : Key) = Sum.inr t) = false from decide_eq_false fun e => ha (Sum.inr.inj e)]
      exact ih ((List.mem_cons.mp h).resolve_left fun e => ha e.symm)
theorem val_kvT_no {dk : List Str} {t : Str} (h : t ∉ dk) : valV (kvT dk) (.inr t) = none := by
  rw [kvT_kv]
  exact val_no (by rw [List.map_map]; rw [show ((fun x : Str × V => x.1) ∘ fun t => (t, V.bl true)) = id from rfl, List.map_id]; exact h)
theorem put_kvT (dk : List Str) (t : Str) : putK (kvT dk) (.inr t) (.bl true) = kvT (addT dk t) := by
  unfold addT
  by_cases h : t ∈ dk
  · rw [if_pos h]
    unfold putK
    have ha : ((kvT dk).any fun kv => decide (kv.1 = (Sum.inr t : Key))) = true := by
      rw [List.any_eq_true]
      exact ⟨(.inr t, .bl true), List.mem_map.mpr ⟨t, h, rfl⟩, decide_eq_true rfl⟩
    rw [if_pos ha]
    refine (List.map_congr_left fun e he => ?_).trans (List.map_id _)
    obtain ⟨u, _, rfl⟩ := List.mem_map.mp he
    show (if (Sum.inr u : Key) = Sum.inr t then ((Sum.inr u : Key), V.bl true) else _) = _
    split <;> rfl
  · rw [if_neg h, putK_new _ (val_kvT_no h)]
    unfold kvT
    rw [List.map_append]; rfl
theorem kvT_len (dk : List Str) : (kvT dk).length = dk.length := by unfold kvT; rw [List.length_map]
theorem kvT_keys (dk : List Str) : (kvT dk).map (fun q => kV q.1) = dk.map V.str := by unfold kvT; rw [List.map_map]; rfl
theorem addT_len (dk : List Str) (t : Str) : (addT dk t).length ≤ dk.length + 1 := by
  unfold addT; split
  · omega
  · rw [List.length_append]; simp
theorem fold_len : ∀ (l dk : List Str), (l.foldl addT dk).length ≤ dk.length + l.length
  | [], _ => Nat.le_refl _
  | t :: l, dk => by
    have := fold_len l (addT dk t)
    have := addT_len dk t
    rw [List.foldl_cons, List.length_cons]; omega
theorem mem_addT {dk : List Str} {t x : Str} : x ∈ addT dk t ↔ x ∈ dk ∨ x = t := by
  unfold addT; split
  · rename_i h
    exact ⟨Or.inl, fun h' => h'.elim id fun e => e ▸ h⟩
  · rw [List.mem_append, List.mem_singleton]
theorem mem_fold : ∀ {l dk : List Str} {x : Str}, x ∈ l.foldl addT dk ↔ x ∈ dk ∨ x ∈ l
  | [], dk, x => by simp
  | t :: l, dk, x => by rw [List.foldl_cons, mem_fold (l := l), mem_addT, List.mem_cons, or_assoc]
theorem mem_fnd {l : List Str} {x : Str} : x ∈ fnd l ↔ x ∈ l := by unfold fnd; rw [mem_fold]; simp
theorem addT_nd {dk : List Str} {t : Str} (h : dk.Nodup) : (addT dk t).Nodup := by
  unfold addT; split
  · exact h
  · rename_i hn
    rw [List.nodup_append]
    exact ⟨h, by simp, fun a ha b hb => by obtain rfl := List.mem_singleton.mp hb; exact fun z => hn (z ▸ ha)⟩
theorem fold_nd : ∀ {l dk : List Str}, dk.Nodup → (l.foldl addT dk).Nodup
  | [], _, h => h
  | t :: l, dk, h => fold_nd (l := l) (addT_nd h)
/-! targets -/
def strOf : V → Option Str
  | .str t => some t
  | _ => none
def refsV (vs : List V) : List Str := vs.filterMap strOf
def refsI (its : List (Str × List V)) : List Str := its.flatMap fun r => refsV r.2
def foundE (its : List (Str × List V)) : List Str := fnd (refsI its)
def targetsE (its : List (Str × List V)) : List Str := (foundE its).mergeSort (PySem.W.dataLe false keyD)
structure ItO (its : List (Str × List V)) : Prop where
  sz : SzI its 240
  nd : (its.map (·.1)).Nodup
  n : (refsI its).length ≤ 240
theorem refsV_len (vs : List V) : (refsV vs).length ≤ vs.length := List.length_filterMap_le _ _
theorem strOf_plain {v : V} (h : Plain v) {t : Str} (e : strOf v = some t) : v = .str t ∧ t.length ≤ 1000000 := by
  rcases h with rfl | ⟨i, rfl⟩ | ⟨z, rfl, hz⟩
  · cases e
  · cases e
  · cases (show some z = some t from e)
    exact ⟨rfl, hz⟩
theorem isRef_of {v : V} (h : isRef v = true) : ∃ t, v = .str t := by
  cases v with
  | str t => exact ⟨t, rfl⟩
  | _ => cases h
theorem isRef_no {v : V} (h : isRef v = false) : strOf v = none := by
  cases v with
  | str t => cases h
  | _ => rfl
def spTargets : Sp := fun vs H Q _ => ∃ (q : Addr) (rs : List IR), vs = [.ref q] ∧ Its H q rs ∧ ItO (bareI rs) ∧ ∀ H' p, Same H H' → H p = none → H' p = some (.lst ((targetsE (bareI rs)).map V.str)) → Q (.ref p) H'
abbrev s_targets_of : Stmt := topS 25
abbrev N_targets_of : List Str := ["items", "found", "path", "item"]
theorem sc_targets_of : FnScope ["items", "found", "path", "item"] ["items"] (defScope s_targets_of) := ⟨rfl, rfl, rfl, by decide +kernel, rfl, by decide +kernel, by decide +kernel⟩
theorem ikv_get {rs : List IR} {i : Nat} {k : Key} {v : V} (h : (ikv rs)[i]? = some (k, v)) : ∃ r, rs[i]? = some r ∧ k = .inr r.1 ∧ v = .ref r.2.1 ∧ r ∈ rs := by
  unfold ikv at h
  rw [List.getElem?_map] at h
  cases e : rs[i]? with
  | none => rw [e] at h; cases h
  | some r =>
    rw [e] at h
    cases h
    exact ⟨r, rfl, rfl, rfl, List.mem_of_getElem? e⟩
theorem refs_mem_sz {its : List (Str × List V)} (h : ItO its) {t : Str} (ht : t ∈ refsI its) : t.length ≤ 1000000 ∧ isTg t = true := by
  obtain ⟨r, hr, h1⟩ := List.mem_flatMap.mp ht
  obtain ⟨v, hv, h2⟩ := List.mem_filterMap.mp h1
  obtain ⟨hp, hi⟩ := (h.sz.v r hr).2 v hv
  obtain ⟨rfl, hl⟩ := strOf_plain hp h2
  refine ⟨hl, ?_⟩
  have h3 : (false || isTg t) = true := hi
  rw [Bool.false_or] at h3
  exact h3
section
variable {P : Program} {w : World} {K : PySem.W.Frag} {mg : Str → Option Value} {base : Heap} {tk1 tk2 : Tok}
theorem ok_targets {f f1 : Addr} {fd fd1 : FuncData} (F : Fun K "targets_of" "targets_of" s_targets_of f fd) (T : Txt K mg tk1 tk2) (d_io : DefAt P w K mg base "in_order" 5 f1 fd1 ["paths"] (spOrder K)) : FnOk P w K mg base CX0 6 f fd ["items"] spTargets := by
  refine F.ok sc_targets_of (fun vs H Q E h => ?_) (fun cdv A outer s H vs Q E hr h => ?_)
  · obtain ⟨q, rs, rfl, _⟩ := h
    rfl
  have hu1 := hu_of hr
  refine ⟨_, (pss_cons (ps_lock (ps_setDc2 (j := 1) (own := [("path", 2), ("item", 3)]) (vb := [3]) rfl sc_targets_of.nd rfl rfl (sw_dc rfl rfl rfl (by decide +kernel)) (pi_keys (pv 0)) (blkOk_by (N := N_targets_of) (sc := defScope s_targets_of) (by decide +kernel)) (by decide)
      (fun _ _ _ _ _ => pg_name (i := 2) sc_targets_of.nd rfl (Or.inl rfl)) (fun _ _ _ _ _ => pts_nil)
      (fun _ _ _ _ _ => (show PI _ _ _ (iList K _) from pi_list (pe_dget hu1 (pv 0) (pv 2) (fun _ _ => rfl)))) (fun _ _ _ _ _ => pg_name (i := 3) sc_targets_of.nd rfl (Or.inl rfl))
      (fun _ _ _ _ _ => pts_one (pt_val (pe_callB (show CallR _ (.builtin "isinstance") (rIsi K) from call_isi) (by rfl) T.n_isinstance (by decide +kernel) (pa_cons (pv 3) (pa_cons (pe_bltn (v := .ty "str") (by rfl) T.n_str (by decide +kernel) rfl) pa_nil))))) (fun _ _ _ _ _ => pv 3) (fun _ _ _ _ _ => pe_bl)))
    (pss_one (ps_ret (pe_callD d_io (hr.mono (by decide)) (pa_cons (pe_callTy (call_listD rfl) (by rfl) T.n_list (by decide +kernel) (pa_cons (pv 1) pa_nil)) pa_nil))))), ?_⟩
  obtain ⟨q, rs, rfl, hit, hO, hq⟩ := h
  have hbig := sizeLine_big
  have hkl : (ikv rs).length = rs.length := by unfold ikv; rw [List.length_map]
  have ndk : (rs.map (·.1)).Nodup := by rw [← bareI_keys]; exact hO.nd
  have hd := hit.d
  refine ⟨q, _, hd, True.intro, fun od => ?_⟩
  refine ⟨_, rfl, q, od, rfl, Or.inl ⟨ikv rs, upd_same, fun D hD => ?_⟩⟩
  have hl0 : (upd H q (.frz od (.dK (ikv rs)))) q = some (.frz od (.dK (ikv rs))) := upd_same
  have hs0 : ∀ H', Same (upd H q (.frz od (.dK (ikv rs)))) H' → Same H (upd H' q (.dK (ikv rs))) := fun H' s' => same_unlock hd s'
  have hlist : ∀ r ∈ rs, (upd H q (.frz od (.dK (ikv rs)))) r.2.1 = some (.lst r.2.2) := fun r hr => by
    rw [upd_ne (ne_of (hit.l r hr) hd (by intro z; cases z))]; exact hit.l r hr
  generalize (upd H q (.frz od (.dK (ikv rs)))) = L at hl0 hs0 hD hlist
  have nDd : D ≠ q := Ne.symm (ne_of_none hl0 hD)
  have tot : ∀ l : List Str, l.length ≤ 240 → (kvT (fnd l)).length ≤ 240 := fun l hl => by
    rw [kvT_len]; have := fold_len l []; unfold fnd; simp at this; omega
  have hsub : ∀ i r, rs[i]? = some r → ∀ j, (refsI (bareI (rs.take i)) ++ refsV (r.2.2.take j)).length ≤ 240 := fun i r hi j => by
    have h1 : refsI (bareI rs) = refsI (bareI (rs.take i)) ++ (refsV r.2.2 ++ refsI (bareI (rs.drop (i + 1)))) := by
      have hil := (List.getElem?_eq_some_iff.mp hi).1
      have he := (List.getElem?_eq_some_iff.mp hi).2
      conv => lhs; rw [← List.take_append_drop i rs, List.drop_eq_getElem_cons hil, he]
      unfold bareI refsI
      rw [List.map_append, List.map_cons, List.flatMap_append, List.flatMap_cons]
    have h2 := hO.n
    rw [h1, List.length_append, List.length_append] at h2
    have h3 : (refsV (r.2.2.take j)).length ≤ (refsV r.2.2).length := by
      have : refsV r.2.2 = refsV (r.2.2.take j) ++ refsV (r.2.2.drop j) := by
        unfold refsV; rw [← List.filterMap_append, List.take_append_drop]
      rw [this, List.length_append]; omega
    rw [List.length_append]; omega
  refine dc2_it walk_keys (fun i H' => Same L H' ∧ H' D = some (.dK (kvT (fnd (refsI (bareI (rs.take i))))))) ⟨same_new hD, upd_same⟩ (fun i H' _ h => h.1 _ _ hl0) ?_ ?_
  · rintro i x H1 H2 hi ⟨sm, hd1⟩ ⟨rfl, k, v, hk, rfl⟩
    obtain ⟨r, hri, rfl, rfl, hrm⟩ := ikv_get hk
    have etake : refsI (bareI (rs.take (i + 1))) = refsI (bareI (rs.take i)) ++ refsV r.2.2 := by
      rw [List.take_add_one, hri]; unfold refsI bareI; rw [List.map_append, List.flatMap_append]; simp
    refine ⟨rfl, tyes_if ?_⟩
    refine ⟨_, rfl, _, rfl, q, .ref r.2.1, rfl, .inl ⟨ikv rs, .inr r.1, .inr ⟨od, sm _ _ hl0⟩, rfl, (val_ikv ndk hrm).symm⟩, r.2.1, rfl, ⟨_, SqL.of (sm _ _ (hlist r hrm))⟩, ?_⟩
    refine dcB_it (walk_list (xs := r.2.2)) (fun j H' => Same L H' ∧ H' D = some (.dK (kvT (fnd (refsI (bareI (rs.take i)) ++ refsV (r.2.2.take j)))))) ⟨sm, by rw [List.take_zero]; show H2 D = some (.dK (kvT (fnd (refsI (bareI (rs.take i)) ++ [])))); rw [List.append_nil]; exact hd1⟩ (fun j H' _ h => SqL.of (h.1 _ _ (hlist r hrm))) ?_ ?_
    · rintro j x H3 H4 hj ⟨s3, h3⟩ ⟨rfl, hx⟩
      have hpl : Plain x := ((hO.sz.v (r.1, r.2.2) (List.mem_map.mpr ⟨r, hrm, rfl⟩)).2 x (List.mem_of_getElem? hx)).1
      obtain ⟨t, b, ty, hkit, hb⟩ := plain_str (K := K) (H := H4) hpl
      have en : refsV (r.2.2.take (j + 1)) = refsV (r.2.2.take j) ++ (match strOf x with | some t => [t] | none => []) := by
        rw [List.take_add_one, hx]; unfold refsV; rw [List.filterMap_append]
        cases hs : strOf x with
        | none => simp [hs]
        | some t => simp [hs]
      refine ⟨rfl, _, rfl, x, .ty "str", _, _, b, rfl, .ty _, ty, hkit, b, rfl, ?_⟩
      subst hb
      cases hr0 : isRef x with
      | false =>
        refine iteF ⟨s3, ?_⟩
        rw [en, isRef_no hr0, List.append_nil]; exact h3
      | true =>
        obtain ⟨t, rfl⟩ := isRef_of hr0
        refine iteT ⟨_, rfl, _, .inr t, rfl, h3, Nat.lt_of_le_of_lt (tot _ (hsub i r hri j)) (by omega), same_upd hD s3, ?_⟩
        rw [upd_same, put_kvT, en]
        show _ = some (HO.dK (kvT (fnd (refsI (bareI (rs.take i)) ++ (refsV (r.2.2.take j) ++ [t])))))
        rw [← List.append_assoc, fnd_app (refsI (bareI (rs.take i)) ++ refsV (r.2.2.take j)) [t]]; rfl
    · rintro H3 ⟨s3, h3⟩
      refine ⟨s3, ?_⟩
      rw [List.take_length] at h3
      rw [etake]; exact h3
  rintro H1 ⟨sm, hd1⟩
  rw [hkl, List.take_length] at hd1
  refine ⟨sm _ _ hl0, ?_⟩
  have S1 := hs0 _ sm
  have hd2 : (upd H1 q (.dK (ikv rs))) D = some (.dK (kvT (foundE (bareI rs)))) := by rw [upd_ne nDd]; exact hd1
  have hDH : H D = none := by
    have e : D ≠ q := nDd
    cases hh : H D with
    | none => rfl
    | some o => have := S1 _ _ hh; rw [hd2] at this; cases this; exact absurd hh (by
        intro _; have h5 := hs0 L (Same.refl L) _ _ hh; rw [upd_ne e, hD] at h5; cases h5)
  generalize (upd H1 q (HO.dK (ikv rs))) = G1 at S1 hd2 ⊢
  refine ⟨_, rfl, D, _, rfl, Or.inl hd2, fun p hp => ?_⟩
  rw [kvT_keys]
  refine ⟨p, foundE (bareI rs), rfl, SqL.of upd_same, fun x hx => (refs_mem_sz hO (mem_fnd.mp hx)).1, fun H3 p2 s3 np hp2 => ?_⟩
  have S3 : Same G1 H3 := (same_new hp).trans s3
  exact hq H3 p2 (S1.trans S3) ((S1.trans (same_new hp)).free np) hp2
end
end KF

set_option Elab.async false
set_option linter.all false
set_option maxRecDepth 100000
set_option maxHeartbeats 8000000
namespace LF
open PySem PySem.Spec PyProof.Rows L2
open Evl (Ev EvL EvU EvT EvA Ex sq_of st_of)
theorem PE.or {X : Cx} {e : Expr} {t u : TE} (a : PE X e t) (b : PE X e u) : PE X e (fun σ H Q => t σ H Q ∨ u σ H Q) :=
  ⟨fun pins s σ H Q I h => h.elim (a.run pins s σ H Q I) (b.run pins s σ H Q I)⟩
abbrev tOr2 (t u : TE) : TE := fun σ H Q => t σ H Q ∨ u σ H Q
abbrev iOr2 (u v : TI) : TI := fun σ H R => u σ H R ∨ v σ H R
section
variable {K : PySem.W.Frag} {σ : L2.St} {H H' : Hp} {ta tb te tx td ty t u : TE} {x y z v : V} {q : Addr} {kvs : List (Key × V)} {k : Key}
theorem ev_orL (h : Ev t σ H v) : Ev (tOr2 t u) σ H v := fun H1 e Q q => Or.inl (h H1 e Q q)
theorem ev_orR (h : Ev u σ H v) : Ev (tOr2 t u) σ H v := fun H1 e Q q => Or.inr (h H1 e Q q)
theorem ev_dgetK (hd : Ev td σ H (.ref q)) (hy : Ev ty σ H (kV k)) (h : H q = some (.dK kvs)) (hv : valV kvs k = some v) : Ev (tDGet td ty) σ H v := fun H1 e Q hq =>
  hd H1 e _ fun H2 e2 => hy H2 (e.trans e2) _ fun H3 e3 => ⟨q, v, rfl, by have g := DGet.k (k := k) (((e.trans e2).trans e3) _ _ h); rw [hv] at g; exact g, hq H3 (e2.trans e3)⟩
theorem ev_dinK (hd : Ev td σ H (.ref q)) (hy : Ev ty σ H (kV k)) (h : H q = some (.dK kvs)) : Ev (tDIn ty td) σ H (.bl (valV kvs k).isSome) := fun H1 e Q hq =>
  hy H1 e _ fun H2 e2 => hd H2 (e.trans e2) _ fun H3 e3 => ⟨q, _, rfl, DGet.k (k := k) (((e.trans e2).trans e3) _ _ h), hq H3 (e2.trans e3)⟩
theorem ev_dnotK (hd : Ev td σ H (.ref q)) (hy : Ev ty σ H (kV k)) (h : H q = some (.dK kvs)) : Ev (tDNotIn ty td) σ H (.bl (!(valV kvs k).isSome)) := fun H1 e Q hq =>
  hy H1 e _ fun H2 e2 => hd H2 (e.trans e2) _ fun H3 e3 => ⟨q, _, rfl, DGet.k (k := k) (((e.trans e2).trans e3) _ _ h), hq H3 (e2.trans e3)⟩
theorem isD_k {a : Addr} (h : H a = some (.dK kvs)) : IsD H a := Or.inl ⟨_, Or.inl h⟩
/-- d.get(k, ()) -/
theorem ev_dgetT (hd : Ev td σ H (.ref q)) (hy : Ev ty σ H (kV k)) (h : H q = some (.dK kvs)) (hv : valV kvs k = some v) : Ev (tDGet2 td ty (tTup tNil)) σ H v := fun H1 e Q hq =>
  hd H1 e _ fun H2 e2 => ⟨q, rfl, isD_k ((e.trans e2) _ _ h), hy H2 (e.trans e2) _ fun H3 e3 => ⟨Nat.zero_le _, fun p hp => ⟨some v, by
    have e4 : Ex H (upd H3 p (.tup [])) := ((e.trans e2).trans e3).trans (Ex.new hp)
    have g := DGet.k (k := k) (e4 _ _ h); rw [hv] at g; exact g, hq _ ((e2.trans e3).trans (Ex.new hp))⟩⟩⟩
theorem eu_dgetT (hd : Ev td σ H (.ref q)) (hy : Ev ty σ H (kV k)) (h : H q = some (.dK kvs)) (hv : valV kvs k = none) : EvU (tDGet2 td ty (tTup tNil)) σ H [] := fun H1 e Q hq =>
  hd H1 e _ fun H2 e2 => ⟨q, rfl, isD_k ((e.trans e2) _ _ h), hy H2 (e.trans e2) _ fun H3 e3 => ⟨Nat.zero_le _, fun p hp => ⟨none, by
    have e4 : Ex H (upd H3 p (.tup [])) := ((e.trans e2).trans e3).trans (Ex.new hp)
    have g := DGet.k (k := k) (e4 _ _ h); rw [hv] at g; exact g, hq p _ (Evl.fresh_back (e2.trans e3) hp) ((e2.trans e3).trans (Ex.new hp)) upd_same⟩⟩⟩
/-- [f(x) for x in list], f a test -/
theorem el_lcB {j : Nat} {tl : TE} {a : Addr} {xs : List V} (f : V → Bool) (h : Ev tl σ H (.ref a)) (hx : H a = some (.lst xs)) (hz : xs.length ≤ 40000) (hs : ∀ x H1, x ∈ xs → Ex H H1 → Ev te ((wipe σ [j]).set j (some x)) H1 (.bl (f x))) :
    EvL (tLc (iList K tl) (gName j) tYes te [j]) σ H ((xs.map f).map V.bl) := by
  refine el_lcLm (K := K) _ h hx (by rw [List.length_map, List.length_map]) hz fun i x y H1 R e hx2 hy k => ?_
  rw [List.getElem?_map, List.getElem?_map, hx2] at hy
  cases (show some (V.bl (f x)) = some y from hy)
  exact k _ wipe_set (hs x H1 (List.mem_of_getElem? hx2) e)
/-- over nothing, a tuple made on the way -/
theorem el_lcU0 {j : Nat} {tl : TE} (h : EvU tl σ H []) : EvL (tLc (iTup K tl) (gName j) tYes te [j]) σ H [] := fun H0 e Q q =>
  h H0 e _ fun p H1 hp e1 h1 => ⟨p, rfl, ⟨[], st_of h1⟩, fun Dl hD => lc_tup (xs := []) (fun i H' => Ex H1 H' ∧ H' Dl = some (.lst [])) ⟨Ex.new hD, upd_same⟩ (fun i H' _ p => st_of (p.1 _ _ h1)) (fun i x H' hi p => by simp at hi) fun H' p => q Dl H' (Evl.fresh_back e1 hD) (e1.trans p.1) p.2⟩
theorem el_orL {u v : TI} {g : TG} {tt : TT} {vs : List Nat} {xs : List V} (h : EvL (tLc u g tt te vs) σ H xs) : EvL (tLc (iOr2 u v) g tt te vs) σ H xs := fun H1 e Q q => Or.inl (h H1 e Q q)
theorem el_orR {u v : TI} {g : TG} {tt : TT} {vs : List Nat} {xs : List V} (h : EvL (tLc v g tt te vs) σ H xs) : EvL (tLc (iOr2 u v) g tt te vs) σ H xs := fun H1 e Q q => Or.inr (h H1 e Q q)
theorem ev_anyB {bs : List Bool} (h : EvL te σ H (bs.map V.bl)) : Ev (tCB (rAny K) (tCons te tNil)) σ H (.bl (bs.any id)) := fun H1 e Q q =>
  h H1 e _ fun p H2 _ e2 h2 => ⟨p, bs, rfl, sq_of h2, q H2 e2⟩
end
end LF
namespace KF
open PySem PySem.Spec PyProof.Rows L2 LF
open Evl (Ev EvL EvU EvT EvA Ex sq_of st_of)
theorem ev_isiV {K : PySem.W.Frag} {te : TE} {σ : L2.St} {H : Hp} {x : V} (h : Ev te σ H x) (hp : Plain x) : Ev (tCB (rIsi K) (tCons te (tCons (tC (.ty "str")) tNil))) σ H (.bl (isRef x)) := by
  refine Evl.ev_cb (vs := [x, .ty "str"]) (Evl.ea_cons h (Evl.ea_cons Evl.ev_c Evl.ea_nil)) fun H1 e Q q => ?_
  obtain ⟨t, b, ty, hk, hb⟩ := plain_str (K := K) (H := H1) hp
  subst hb
  exact ⟨x, .ty "str", _, _, _, rfl, .ty "str", ty, hk, q H1 (Ex.refl H1)⟩
/-- what stands at a path -/
def getI (its : List (Str × List V)) (l : Str) : List V := ((its.find? fun r => decide (r.1 = l)).map (·.2)).getD []
def getE (en : List (Str × List Str)) (l : Str) : List Str := ((en.find? fun r => decide (r.1 = l)).map (·.2)).getD []
theorem find_mem {α : Type} : ∀ {l : List (Str × α)} {r : Str × α}, (l.map (·.1)).Nodup → r ∈ l → l.find? (fun s => decide (s.1 = r.1)) = some r
  | [], _, _, h => by cases h
  | a :: l, r, nd, h => by
    rw [List.map_cons, List.nodup_cons] at nd
    rw [List.find?_cons]
    rcases List.mem_cons.mp h with rfl | h
    · rw [show decide (r.1 = r.1) = true from decide_eq_true rfl]
    · rw [show decide (a.1 = r.1) = false from decide_eq_false fun e => nd.1 (List.mem_map.mpr ⟨r, h, e.symm⟩)]
      exact find_mem nd.2 h
theorem find_no {α : Type} {l : List (Str × α)} {z : Str} (h : z ∉ l.map (·.1)) : l.find? (fun s => decide (s.1 = z)) = none := by
  rw [List.find?_eq_none]
  intro a ha e
  exact h (List.mem_map.mpr ⟨a, ha, of_decide_eq_true e⟩)
theorem getI_mem {its : List (Str × List V)} {r : Str × List V} (nd : (its.map (·.1)).Nodup) (h : r ∈ its) : getI its r.1 = r.2 := by unfold getI; rw [find_mem nd h]; rfl
theorem getI_no {its : List (Str × List V)} {z : Str} (h : z ∉ its.map (·.1)) : getI its z = [] := by unfold getI; rw [find_no h]; rfl
theorem getE_mem {en : List (Str × List Str)} {r : Str × List Str} (nd : (en.map (·.1)).Nodup) (h : r ∈ en) : getE en r.1 = r.2 := by unfold getE; rw [find_mem nd h]; rfl
theorem getE_no {en : List (Str × List Str)} {z : Str} (h : z ∉ en.map (·.1)) : getE en z = [] := by unfold getE; rw [find_no h]; rfl
/-! the ends: a dict of sets of texts -/
abbrev ER := Str × Addr × List Str
def ekv (en : List ER) : List (Key × V) := en.map fun r => (.inr r.1, .ref r.2.1)
structure EndA (H : Hp) (e : Addr) (en : List ER) : Prop where
  d : H e = some (.dK (ekv en))
  l : ∀ x ∈ en, H x.2.1 = some (.dK (kvT x.2.2))
theorem EndA.ex {H H' : Hp} {e : Addr} {en : List ER} (h : EndA H e en) (s : Ex H H') : EndA H' e en := ⟨s _ _ h.d, fun x hx => s _ _ (h.l x hx)⟩
theorem Its.ex {H H' : Hp} {q : Addr} {rs : List IR} (h : Its H q rs) (s : Ex H H') : Its H' q rs := ⟨s _ _ h.d, fun x hx => s _ _ (h.l x hx)⟩
def bareE (en : List ER) : List (Str × List Str) := en.map fun r => (r.1, r.2.2)
theorem bareE_keys (en : List ER) : (bareE en).map (·.1) = en.map (·.1) := by unfold bareE; rw [List.map_map]; rfl
theorem val_ekv {en : List ER} (nd : (en.map (·.1)).Nodup) {x : ER} (h : x ∈ en) : valV (ekv en) (.inr x.1) = some (.ref x.2.1) := by
  have := val_mem (es := en.map fun r => (r.1, V.ref r.2.1)) (p := x.1) (v := .ref x.2.1) (by rw [List.map_map]; exact nd) (List.mem_map.mpr ⟨x, h, rfl⟩)
  unfold kv at this
  rw [List.map_map] at this
  exact this
theorem val_ekv_no {en : List ER} {p : Str} (h : p ∉ en.map (·.1)) : valV (ekv en) (.inr p) = none := by
  have := val_no (es := en.map fun r => (r.1, V.ref r.2.1)) (p := p) (by rw [List.map_map]; exact h)
  unfold kv at this
  rw [List.map_map] at this
  exact this
def itemOk (en : List (Str × List Str)) (after : Str) (v : V) : Bool := match strOf v with
  | some t => decide (after ∈ getE en t)
  | none => false
def leadsS (its : List (Str × List V)) (en : List (Str × List Str)) (place name after : Str) : Bool :=
  decide (jn place name ∈ its.map (·.1)) && (decide (after = jn place name) || (getI its (jn place name)).any (itemOk en after))
def spLeads : Sp := fun vs H Q _ => ∃ (q e : Addr) (rs : List IR) (en : List ER) (place name after : Str), vs = [.ref q, .ref e, .str place, .str name, .str after] ∧ Its H q rs ∧ ItO (bareI rs) ∧ EndA H e en ∧ (en.map (·.1)).Nodup ∧
  place.length ≤ 1000 ∧ name.length ≤ 1000 ∧ ∀ H', Ex H H' → Q (.bl (leadsS (bareI rs) (bareE en) place name after)) H'
abbrev s_leads_on : Stmt := topS 29
abbrev N_leads_on : List Str := ["items", "ends", "place", "name", "after", "longer", "item"]
theorem sc_leads_on : FnScope ["items", "ends", "place", "name", "after", "longer", "item"] ["items", "ends", "place", "name", "after"] (defScope s_leads_on) := ⟨rfl, rfl, rfl, by decide +kernel, rfl, by decide +kernel, by decide +kernel⟩
theorem val_its {rs : List IR} (nd : (rs.map (·.1)).Nodup) (z : Str) : (valV (ikv rs) (.inr z)).isSome = decide (z ∈ rs.map (·.1)) := by
  by_cases h : z ∈ rs.map (·.1)
  · obtain ⟨r, hr, rfl⟩ := List.mem_map.mp h
    rw [val_ikv nd hr, decide_eq_true h]; rfl
  · rw [val_ikv_no h, decide_eq_false h]; rfl
section
variable {P : Program} {w : World} {K : PySem.W.Frag} {mg : Str → Option Value} {base : Heap} {tk1 tk2 : Tok}
theorem ev_jn {σ : L2.St} {H : Hp} {ta tb : TE} {E : XK} {p n : Str} (h1 : Ev ta σ H (.str p)) (h2 : Ev tb σ H (.str n)) (hp : p.length ≤ 100000) (hn : n.length ≤ 100000) : Ev (tCall spJn [] E (tCons ta (tCons tb tNil))) σ H (.str (jn p n)) :=
  Evl.ev_call (vs := [.str p, .str n]) (Evl.ea_cons h1 (Evl.ea_cons h2 Evl.ea_nil)) fun H1 e Q q E => ⟨p, n, rfl, hp, hn, fun H2 s => q H2 s⟩
theorem ok_leads {f f1 : Addr} {fd fd1 : FuncData} (F : Fun K "leads_on" "leads_on" s_leads_on f fd) (T : Txt K mg tk1 tk2) (n_any : mg "any" = none) (d_jn : DefAt P w K mg base "joined" 1 f1 fd1 ["path", "name"] spJn) : FnOk P w K mg base CX0 2 f fd ["items", "ends", "place", "name", "after"] spLeads := by
  refine F.ok sc_leads_on (fun vs H Q E h => ?_) (fun cdv A outer s H vs Q E hr h => ?_)
  · obtain ⟨q, e, rs, en, place, name, after, rfl, _⟩ := h
    rfl
  have hu1 := hu_of hr
  refine ⟨_, (pss_cons (ps_set (i := 5) sc_leads_on.nd rfl (Or.inl rfl) (pe_callD d_jn (hr.mono (by decide)) (pa_cons (pv 2) (pa_cons (pv 3) pa_nil))))
    (pss_cons (ps_if (pt_cmp (pc_dnotin hu1 (pv 5) (pv 0))) (pss_one (ps_ret pe_bl)) pss_nil)
    (pss_cons (ps_if (pt_cmpR op_eq (pv 4) (pv 5) (nomark _)) (pss_one (ps_ret pe_bl)) pss_nil)
    (pss_one (ps_ret (pe_callB (cr_any rfl) (by rfl) n_any (by decide +kernel) (pa_cons (pe_lc (own := [("item", 6)]) rfl sc_leads_on.nd (pi_list (pe_dget hu1 (pv 0) (pv 5) (fun _ _ => rfl))) (blkOk_by (N := N_leads_on) (sc := defScope s_leads_on) (by decide +kernel)) (fun _ _ _ _ _ => pg_name (i := 6) sc_leads_on.nd rfl (Or.inl rfl)) (fun _ _ _ _ _ => pts_nil)
      (fun _ _ _ _ _ => (pe_and (pe_callB (show CallR _ (.builtin "isinstance") (rIsi K) from call_isi) (by rfl) T.n_isinstance (by decide +kernel) (pa_cons (pv 6) (pa_cons (pe_bltn (v := .ty "str") (by rfl) T.n_str (by decide +kernel) rfl) pa_nil)))
        (pe_one (PE.or (pe_cmp (pc_din hu1 (pv 4) (pe_dget2 hu1 (pv 1) (pv 6) (pe_tup pa_nil) ⟨rfl, rfl, rfl, rfl⟩)))
          (pe_cmpR (show OpR _ (compareOp .In) (rIn K false) from op_in_seq) (pv 4) (pe_dget2 hu1 (pv 1) (pv 6) (pe_tup pa_nil) ⟨rfl, rfl, rfl, rfl⟩) (by rfl))))))) pa_nil))))))), ?_⟩
  obtain ⟨q, e, rs, en, place, name, after, rfl, hit, hO, hen, hnd, hp, hn, hq⟩ := h
  have ndk : (rs.map (·.1)).Nodup := by rw [← bareI_keys]; exact hO.nd
  refine Evl.q_asg (ev_jn (Evl.ev_var (i := 2) rfl) (Evl.ev_var (i := 3) rfl) (by omega) (by omega)) fun H1 e1 => ?_
  unfold leadsS at hq
  rw [bareI_keys] at hq
  refine Evl.q_when (Evl.et_B (Evl.ev_is (ev_dnotK (k := .inr (jn place name)) (Evl.ev_var (i := 0) rfl) (Evl.ev_var (i := 5) rfl) (hit.ex e1).d) (by rw [val_its ndk]))) (fun h1 H2 e2 => ?_) (fun h1 H2 e2 => ?_)
  · refine Evl.s_ret Evl.ev_c fun H3 e3 => ?_
    have := hq H3 ((e1.trans e2).trans e3)
    rw [Bool.not_eq_true'] at h1
    rw [h1] at this
    exact this
  rw [Bool.not_eq_false'] at h1
  rw [h1, Bool.true_and] at hq
  have e12 := e1.trans e2
  refine Evl.q_when (Evl.et_test (ev_eqS (Evl.ev_var (i := 4) rfl) (Evl.ev_var (i := 5) rfl))) (fun h2 H3 e3 => ?_) (fun h2 H3 e3 => ?_)
  · refine Evl.s_ret Evl.ev_c fun H4 e4 => ?_
    have := hq H4 ((e12.trans e3).trans e4)
    rw [h2, Bool.true_or] at this
    exact this
  rw [h2, Bool.false_or] at hq
  have e13 := e12.trans e3
  obtain ⟨r, hr1, hr2⟩ := List.mem_map.mp (of_decide_eq_true h1)
  have hg : getI (bareI rs) (jn place name) = r.2.2 := by rw [← hr2]; exact getI_mem (r := (r.1, r.2.2)) hO.nd (List.mem_map.mpr ⟨r, hr1, rfl⟩)
  rw [hg] at hq
  have hpl := (hO.sz.v (r.1, r.2.2) (List.mem_map.mpr ⟨r, hr1, rfl⟩)).2
  have hsz : r.2.2.length ≤ 240 := (hO.sz.v (r.1, r.2.2) (List.mem_map.mpr ⟨r, hr1, rfl⟩)).1
  refine Evl.s_ret (Evl.ev_is (ev_anyB (bs := r.2.2.map (itemOk (bareE en) after)) (el_lcB (a := r.2.1) (itemOk (bareE en) after) (ev_dgetK (k := .inr (jn place name)) (Evl.ev_var (i := 0) rfl) (Evl.ev_var (i := 5) rfl) (hit.ex e13).d (by rw [← hr2]; exact val_ikv ndk hr1)) ((hit.ex e13).l r hr1) (by omega) fun x H4 hx e4 => ?_)) (by rw [List.any_map]; rfl)) fun H5 e5 => hq H5 (e13.trans e5)
  have e14 := e13.trans e4
  have hxp := (hpl x hx).1
  refine Evl.ev_is (Evl.ev_andV (a := isRef x) (b := itemOk (bareE en) after x) (ev_isiV (Evl.ev_var (i := 6) rfl) hxp) fun hr0 => ?_) ?_
  · obtain ⟨t, rfl⟩ := isRef_of hr0
    by_cases ht : t ∈ en.map (·.1)
    · obtain ⟨o, ho, rfl⟩ := List.mem_map.mp ht
      refine ev_orL (Evl.ev_is (ev_dinK (q := o.2.1) (k := .inr after) (kvs := kvT o.2.2) (ev_dgetT (k := .inr o.1) (Evl.ev_var (i := 1) rfl) (Evl.ev_var (i := 6) rfl) (hen.ex e14).d (val_ekv hnd ho)) (Evl.ev_var (i := 4) rfl) ((hen.ex e14).l o ho)) ?_)
      have hge : getE (bareE en) o.1 = o.2.2 := getE_mem (r := (o.1, o.2.2)) (by rw [bareE_keys]; exact hnd) (List.mem_map.mpr ⟨o, ho, rfl⟩)
      show V.bl _ = V.bl (decide (after ∈ getE (bareE en) o.1))
      rw [hge]
      by_cases ha : after ∈ o.2.2
      · rw [val_kvT_in ha, decide_eq_true ha]; rfl
      · rw [val_kvT_no ha, decide_eq_false ha]; rfl
    · refine ev_orR (Evl.ev_is (Evl.ev_opU (Evl.ev_var (i := 4) rfl) (eu_dgetT (k := .inr t) (Evl.ev_var (i := 1) rfl) (Evl.ev_var (i := 6) rfl) (hen.ex e14).d (val_ekv_no ht)) fun p H5 h5 e5 => Evl.rv_isT (st_of h5) rfl rfl) ?_)
      have hge : getE (bareE en) t = [] := getE_no (by rw [bareE_keys]; exact ht)
      show V.bl _ = V.bl (decide (after ∈ getE (bareE en) t))
      rw [hge]; rfl
  · cases hr0 : isRef x with
    | true => rw [Bool.true_and]
    | false =>
      show V.bl false = V.bl (match strOf x with | some t => decide (after ∈ getE (bareE en) t) | none => false)
      rw [isRef_no hr0]
end
end KF

set_option Elab.async false
set_option linter.all false
set_option maxRecDepth 100000
set_option maxHeartbeats 8000000
namespace KF
open PySem PySem.Spec PyProof.Rows L2 LF
open Evl (Ev EvL EvU EvT EvA Ex sq_of st_of)
def pathD : PyData → Bool | .str z => isPt z | _ => false
theorem ev_pathD {K : PySem.W.Frag} {te : TE} {σ : L2.St} {H : Hp} {d : PyData} {E : XK} (h : EvD te σ H d) : Ev (tCall (spPath K) [] E (tCons te tNil)) σ H (.bl (pathD d)) := by
  obtain ⟨x, h1, h2⟩ := h
  refine Evl.ev_call (vs := [x]) (Evl.ea_cons h1 Evl.ea_nil) fun H1 e Q q E => ⟨x, pathD d, rfl, ?_, fun H2 s => q H2 s⟩
  have h3 := Dq.same e _ _ h2
  cases hs : isStr d with
  | true =>
    obtain ⟨r1, r2, r3, r4⟩ := h3.strE hs
    refine Or.inl ⟨txt d, r1, by omega, ?_⟩
    rw [r4]; rfl
  | false =>
    refine Or.inr ⟨⟨_, h3.ty, by rw [kit_str', hs]⟩, ?_⟩
    cases d with
    | str z => cases hs
    | _ => rfl
def trailS (its : List (Str × List V)) (en : List (Str × List Str)) (z : Str) (d : PyData) : Bool :=
  (isTup d && decide ((items d).length = (parts z).length + 1)) && (((items d).all isStr && decide (txt (at' d 0) = "")) && (List.range (parts z).length).all fun i => leadsS its en (txt (at' d i)) ((parts z).getD i "") (txt (at' d (i + 1))))
def spTrail : Sp := fun vs H Q _ => ∃ (q e : Addr) (rs : List IR) (en : List ER) (z : Str) (v : V) (d : PyData), vs = [.ref q, .ref e, .str z, v] ∧ Its H q rs ∧ ItO (bareI rs) ∧ EndA H e en ∧ (en.map (·.1)).Nodup ∧ z.length ≤ 1000 ∧ Dq H v d ∧ ∀ H', Ex H H' → Q (.bl (trailS (bareI rs) (bareE en) z d)) H'
abbrev s_is_trail : Stmt := topS 28
abbrev N_is_trail : List Str := ["items", "ends", "path", "thing", "names", "place", "at"]
theorem sc_is_trail : FnScope ["items", "ends", "path", "thing", "names", "place", "at"] ["items", "ends", "path", "thing"] (defScope s_is_trail) := ⟨rfl, rfl, rfl, by decide +kernel, rfl, by decide +kernel, by decide +kernel⟩
def emptyS (its : List (Str × List V)) (place : Str) : Bool := !decide (place = "") && (getI its place).all isRef
def spEmptyP : Sp := fun vs H Q _ => ∃ (q : Addr) (rs : List IR) (place : Str), vs = [.ref q, .str place] ∧ Its H q rs ∧ ItO (bareI rs) ∧ ∀ H', Ex H H' → Q (.bl (emptyS (bareI rs) place)) H'
abbrev s_is_empty_place : Stmt := topS 33
abbrev N_is_empty_place : List Str := ["items", "place", "item"]
theorem sc_is_empty_place : FnScope ["items", "place", "item"] ["items", "place"] (defScope s_is_empty_place) := ⟨rfl, rfl, rfl, by decide +kernel, rfl, by decide +kernel, by decide +kernel⟩
theorem parts_mem_len {z y : Str} (h : y ∈ parts z) : y.length ≤ z.length := by
  unfold parts at h
  split at h
  · cases h
  · exact part_short h
theorem rv_neI {i j : Int} {H : Hp} : Evl.RV rNe (.int i) (.int j) H (.bl (!decide (i = j))) := fun H1 _ Q q => by
  have := q H1 (Ex.refl H1)
  refine ⟨rfl, ?_⟩
  rw [vint_dec]; exact this
theorem rv_neS {i j : Str} {H : Hp} : Evl.RV rNe (.str i) (.str j) H (.bl (!decide (i = j))) := fun H1 _ Q q => by
  have := q H1 (Ex.refl H1)
  refine ⟨rfl, ?_⟩
  rw [vstr_dec]; exact this
section
variable {P : Program} {w : World} {K : PySem.W.Frag} {mg : Str → Option Value} {base : Heap} {tk1 tk2 : Tok}
theorem ok_trail {f f1 f2 : Addr} {fd fd1 fd2 : FuncData} (F : Fun K "is_trail" "is_trail" s_is_trail f fd) (T : Txt K mg tk1 tk2) (n_range : mg "range" = none) (n_tuple : mg "tuple" = none) (d_sp : DefAt P w K mg base "split_path" 1 f1 fd1 ["path"] spSplit)
    (d_le : DefAt P w K mg base "leads_on" 2 f2 fd2 ["items", "ends", "place", "name", "after"] spLeads) : FnOk P w K mg base CX0 3 f fd ["items", "ends", "path", "thing"] spTrail := by
  refine F.ok sc_is_trail (fun vs H Q E h => ?_) (fun cdv A outer s H vs Q E hr h => ?_)
  · obtain ⟨q, e, rs, en, z, v, d, rfl, _⟩ := h
    rfl
  have hu := hr.units
  refine ⟨_, (pss_cons (ps_set (i := 4) sc_is_trail.nd rfl (Or.inr rfl) (pe_callD d_sp (hr.mono (by decide)) (pa_cons (pv 2) pa_nil)))
    (pss_cons (ps_if (PW.pt (pw_or (pt_not (pt_val (pe_callB call_isi (by rfl) T.n_isinstance (by decide +kernel) (pa_cons (pv 3) (pa_cons (pe_bltn (v := .ty "tuple") (by rfl) n_tuple (by decide +kernel) rfl) pa_nil))))) (pw_or1 (pt_cmpR op_ne (pe_callB call_len_seq (by rfl) T.n_len (by decide +kernel) (pa_cons (pv 3) pa_nil)) (pe_op op_add (pe_callB call_len_seq (by rfl) T.n_len (by decide +kernel) (pa_cons (pv 4) pa_nil)) pe_int) (nomark _))))) (pss_one (ps_ret pe_bl)) pss_nil)
    (pss_cons (ps_if (PW.pt (pw_or (pt_not (pt_val (pe_callB (cr_all rfl) (by rfl) T.n_all (by decide +kernel) (pa_cons (pe_lc (own := [("place", 5)]) rfl sc_is_trail.nd (pi_tup (pv 3)) (blkOk_by (N := N_is_trail) (sc := defScope s_is_trail) (by decide +kernel)) (fun _ _ _ _ _ => pg_name (i := 5) sc_is_trail.nd rfl (Or.inl rfl)) (fun _ _ _ _ _ => pts_nil) (fun _ _ _ _ _ => (pe_callB (show CallR _ (.builtin "isinstance") (rIsi K) from call_isi) (by rfl) T.n_isinstance (by decide +kernel) (pa_cons (pv 5) (pa_cons (pe_bltn (v := .ty "str") (by rfl) T.n_str (by decide +kernel) rfl) pa_nil))))) pa_nil)))) (pw_or1 (pt_cmpR op_ne (pe_ix ix_tup (pv 3) pe_int (fun _ _ => rfl)) pe_str (nomark _))))) (pss_one (ps_ret pe_bl)) pss_nil)
    (pss_one (ps_ret (pe_callB (cr_all rfl) (by rfl) T.n_all (by decide +kernel) (pa_cons (pe_lc (own := [("at", 6)]) rfl sc_is_trail.nd (pi_range1 (by rfl) n_range (pa_cons (pe_callB call_len_seq (by rfl) T.n_len (by decide +kernel) (pa_cons (pv 4) pa_nil)) pa_nil)) (blkOk_by (N := N_is_trail) (sc := defScope s_is_trail) (by decide +kernel)) (fun _ _ _ _ _ => pg_name (i := 6) sc_is_trail.nd rfl (Or.inl rfl)) (fun _ _ _ _ _ => pts_nil)
      (fun _ _ _ _ _ => (pe_callD d_le (hr.mono (by decide)) (pa_cons (pv 0) (pa_cons (pv 1) (pa_cons (pe_ix (show IxR _ (rIxT K) from ix_tup) (pv 3) (pv 6) (fun _ _ => rfl)) (pa_cons (pe_ix (show IxR _ (rIxL K) from ix_list) (pv 4) (pv 6) (fun _ _ => rfl)) (pa_cons (pe_ix (show IxR _ (rIxT K) from ix_tup) (pv 3) (pe_op op_add (pv 6) pe_int) (fun _ _ => rfl)) pa_nil)))))))) pa_nil))))))), ?_⟩
  obtain ⟨q, e, rs, en, z, v, d, rfl, hit, hO, hen, hnd, hz, hd, hq⟩ := h
  refine ⟨_, rfl, z, rfl, by omega, fun H1 p e1 hp hp1 => ?_⟩
  have v3 : EvD (tVar 3) [some (.ref q), some (.ref e), some (.str z), some v, some (.ref p), none, none] H1 d := evd_var rfl (Dq.same e1 _ _ hd)
  have lnN : ∀ {σ : L2.St} {H2 : Hp}, σ[4]? = some (some (.ref p)) → Ex H1 H2 → Ev (tCB (Evl.rLenS K) (tCons (tVar 4) tNil)) σ H2 (.int ((parts z).length : Int)) := fun h4 e2 => by
    have := Evl.ev_len (K := K) (Evl.ev_var (i := 4) h4) (sq_of (e2 _ _ hp1))
    rw [List.length_map] at this; exact this
  have hpz : (parts z).length ≤ 1002 := by
    unfold parts; split
    · exact Nat.zero_le _
    · have := split_le z c_sl; omega
  unfold trailS at hq
  have c1 : EvT _ [some (.ref q), some (.ref e), some (.str z), some v, some (.ref p), none, none] H1 (!isTup d || !decide (((items d).length : Int) = ((parts z).length : Int) + 1)) :=
    Evl.et_or (Evl.et_not (Evl.et_B (ev_isi (K := K) v3 (kit_tup' d)))) fun h1 => Evl.et_test (Evl.ev_op (ev_lenD (K := K) v3 (Or.inl (by simpa using h1))) (Evl.ev_op (lnN rfl (Ex.refl _)) Evl.ev_c (Evl.rv_I0 (g := fun i j => .int (i + j)))) rv_neI)
  refine Evl.q_when c1 (fun h1 H2 e2 => ?_) (fun h1 H2 e2 => ?_)
  · refine Evl.s_ret Evl.ev_c fun H3 e3 => ?_
    have := hq H3 ((e1.trans e2).trans e3)
    have e0 : (isTup d && decide ((items d).length = (parts z).length + 1)) = false := by
      cases ht : isTup d with
      | false => rfl
      | true =>
        rw [ht] at h1
        have h5 : (!decide (((items d).length : Int) = ((parts z).length : Int) + 1)) = true := by simpa using h1
        rw [Bool.true_and]
        refine decide_eq_false fun h6 => ?_
        rw [h6, decide_eq_true (by omega)] at h5
        cases h5
    rw [e0, Bool.false_and] at this
    exact this
  rw [Bool.or_eq_false_iff] at h1
  have ht : isTup d = true := by simpa using h1.1
  have hln : (items d).length = (parts z).length + 1 := by
    have : ((items d).length : Int) = ((parts z).length : Int) + 1 := by simpa using h1.2
    omega
  rw [ht, decide_eq_true hln, Bool.true_and, Bool.true_and] at hq
  have e12 := e1.trans e2
  have v3' := v3.mono e2
  have c2 : EvT _ [some (.ref q), some (.ref e), some (.str z), some v, some (.ref p), none, none] H2 (!(items d).all isStr || !decide (txt (at' d 0) = "")) :=
    Evl.et_or (Evl.et_not (Evl.et_B (ev_allT (K := K) (j := 5) isStr v3' ht fun x d' H3 e3 hd' _ => ev_isi (K := K) (evd_var (i := 5) rfl hd') (kit_str' d')))) fun h2 =>
      Evl.et_test (Evl.ev_op ((evd_atT (K := K) (i := 0) v3' ht (by omega) Evl.ev_c).strE (by
        have h3 : (items d).all isStr = true := by simpa using h2
        have h4 : 0 < (items d).length := by omega
        show isStr ((items d).getD 0 .none) = true
        rw [List.getD_eq_getElem?_getD, List.getElem?_eq_getElem h4]
        exact List.all_eq_true.mp h3 _ (List.getElem_mem h4))) Evl.ev_c rv_neS)
  refine Evl.q_when c2 (fun h2 H3 e3 => ?_) (fun h2 H3 e3 => ?_)
  · refine Evl.s_ret Evl.ev_c fun H4 e4 => ?_
    have := hq H4 ((e12.trans e3).trans e4)
    have e0 : ((items d).all isStr && decide (txt (at' d 0) = "")) = false := by
      cases ha : (items d).all isStr with
      | false => rfl
      | true =>
        rw [ha] at h2
        have h5 : (!decide (txt (at' d 0) = "")) = true := by simpa using h2
        rw [Bool.true_and]
        simpa using h5
    rw [e0, Bool.false_and] at this
    exact this
  rw [Bool.or_eq_false_iff] at h2
  have hall : (items d).all isStr = true := by simpa using h2.1
  have h0 : decide (txt (at' d 0) = "") = true := by simpa using h2.2
  rw [hall, h0, Bool.true_and, Bool.true_and] at hq
  have e13 := e12.trans e3
  have hstr : ∀ i, i < (items d).length → isStr (at' d i) = true := fun i hi => by
    show isStr ((items d).getD i .none) = true
    rw [List.getD_eq_getElem?_getD, List.getElem?_eq_getElem hi]
    exact List.all_eq_true.mp hall _ (List.getElem_mem hi)
  refine Evl.s_ret (ev_allR (K := K) (j := 6) (n := ((parts z).length : Int)) (fun i => leadsS (bareI rs) (bareE en) (txt (at' d i)) ((parts z).getD i "") (txt (at' d (i + 1)))) (Evl.ea_cons (lnN rfl (e2.trans e3)) Evl.ea_nil) (by omega) fun i H4 e4 hi => ?_) fun H5 e5 => hq H5 (e13.trans e5)
  have e14 := e13.trans e4
  have hi' : i < (parts z).length := by omega
  have v6 : ∀ {j : Nat} {x : V} {H6 : Hp}, ([some (.ref q), some (.ref e), some (.str z), some v, some (.ref p), none, some (.int (i : Int))] : L2.St)[j]? = some (some x) → Ev (tVar j) [some (.ref q), some (.ref e), some (.str z), some v, some (.ref p), none, some (.int (i : Int))] H6 x := fun h => Evl.ev_var h
  have vd : EvD (tVar 3) [some (.ref q), some (.ref e), some (.str z), some v, some (.ref p), none, some (.int (i : Int))] H4 d := evd_var rfl (Dq.same e14 _ _ hd)
  have a1 := (evd_atT (K := K) (i := i) vd ht (by omega) (v6 (j := 6) rfl))
  have a2 := (evd_atT (K := K) (i := i + 1) (tb := tOp (rI0 fun i j => .int (i + j)) (tVar 6) (tC (.int 1))) vd ht (by omega) (Evl.ev_is (Evl.ev_op (v6 (j := 6) rfl) Evl.ev_c (Evl.rv_I0 (g := fun i j => .int (i + j)))) rfl))
  obtain ⟨x1, _, d1⟩ := id a1
  obtain ⟨x2, _, d2⟩ := id a2
  have hg : (parts z).getD i "" = (parts z)[i] := by rw [List.getD_eq_getElem?_getD, List.getElem?_eq_getElem hi']; rfl
  refine Evl.ev_call (vs := [.ref q, .ref e, .str (txt (at' d i)), .str ((parts z).getD i ""), .str (txt (at' d (i + 1)))]) (Evl.ea_cons (v6 (j := 0) rfl) (Evl.ea_cons (v6 (j := 1) rfl) (Evl.ea_cons (a1.strE (hstr i (by omega)))
    (Evl.ea_cons (Evl.ev_op (v6 (j := 4) rfl) (v6 (j := 6) rfl) (Evl.rv_ixL (sq_of ((e2.trans (e3.trans e4)) _ _ hp1)) (atI_nat (by rw [List.getElem?_map, List.getElem?_eq_getElem hi', hg]; rfl)))) (Evl.ea_cons (a2.strE (hstr (i + 1) (by omega))) Evl.ea_nil))))) fun H5 e5 Q5 q5 E5 => ?_
  have e15 := e14.trans e5
  refine ⟨q, e, rs, en, _, _, _, rfl, hit.ex e15, hO, hen.ex e15, hnd, (d1.strE (hstr i (by omega))).2.1, ?_, fun H6 e6 => q5 H6 e6⟩
  rw [hg]
  exact Nat.le_trans (parts_mem_len (List.getElem_mem hi')) hz
theorem ok_empty_place {f : Addr} {fd : FuncData} (F : Fun K "is_empty_place" "is_empty_place" s_is_empty_place f fd) (T : Txt K mg tk1 tk2) : FnOk P w K mg base CX0 1 f fd ["items", "place"] spEmptyP := by
  refine F.ok sc_is_empty_place (fun vs H Q E h => ?_) (fun cdv A outer s H vs Q E hr h => ?_)
  · obtain ⟨q, rs, place, rfl, _⟩ := h
    rfl
  have hu1 := hu_of hr
  refine ⟨_, (pss_one (ps_ret (pe_and (pe_cmpR op_ne (pv 1) pe_str (nomark _)) (pe_one (pe_callB (cr_all rfl) (by rfl) T.n_all (by decide +kernel) (pa_cons (pe_lc (own := [("item", 2)]) rfl sc_is_empty_place.nd (PI.or (pi_list (pe_dget2 hu1 (pv 0) (pv 1) (pe_tup pa_nil) ⟨rfl, rfl, rfl, rfl⟩)) (pi_tup (pe_dget2 hu1 (pv 0) (pv 1) (pe_tup pa_nil) ⟨rfl, rfl, rfl, rfl⟩))) (blkOk_by (N := N_is_empty_place) (sc := defScope s_is_empty_place) (by decide +kernel)) (fun _ _ _ _ _ => pg_name (i := 2) sc_is_empty_place.nd rfl (Or.inl rfl)) (fun _ _ _ _ _ => pts_nil) (fun _ _ _ _ _ => (pe_callB (show CallR _ (.builtin "isinstance") (rIsi K) from call_isi) (by rfl) T.n_isinstance (by decide +kernel) (pa_cons (pv 2) (pa_cons (pe_bltn (v := .ty "str") (by rfl) T.n_str (by decide +kernel) rfl) pa_nil))))) pa_nil)))))), ?_⟩
  obtain ⟨q, rs, place, rfl, hit, hO, hq⟩ := h
  have ndk : (rs.map (·.1)).Nodup := by rw [← bareI_keys]; exact hO.nd
  refine Evl.s_ret (Evl.ev_andV (a := !decide (place = "")) (b := (getI (bareI rs) place).all isRef) (Evl.ev_op (Evl.ev_var (i := 1) rfl) Evl.ev_c rv_neS) fun _ => ?_) hq
  by_cases h : place ∈ rs.map (·.1)
  · obtain ⟨r, hr1, rfl⟩ := List.mem_map.mp h
    have hg : getI (bareI rs) r.1 = r.2.2 := getI_mem (r := (r.1, r.2.2)) hO.nd (List.mem_map.mpr ⟨r, hr1, rfl⟩)
    have hpl := (hO.sz.v (r.1, r.2.2) (List.mem_map.mpr ⟨r, hr1, rfl⟩)).2
    have hsz : r.2.2.length ≤ 240 := (hO.sz.v (r.1, r.2.2) (List.mem_map.mpr ⟨r, hr1, rfl⟩)).1
    refine Evl.ev_is (ev_allB (bs := r.2.2.map isRef) (el_orL (el_lcB (a := r.2.1) isRef (ev_dgetT (k := .inr r.1) (Evl.ev_var (i := 0) rfl) (Evl.ev_var (i := 1) rfl) hit.d (val_ikv ndk hr1)) (hit.l r hr1) (by omega) fun x H4 hx e4 => ev_isiV (Evl.ev_var (i := 2) rfl) (hpl x hx).1))) (by rw [hg, List.all_map]; rfl)
  · have hg : getI (bareI rs) place = [] := getI_no (by rw [bareI_keys]; exact h)
    refine Evl.ev_is (ev_allB (bs := []) (el_orR (el_lcU0 (eu_dgetT (k := .inr place) (Evl.ev_var (i := 0) rfl) (Evl.ev_var (i := 1) rfl) hit.d (val_ikv_no h))))) (by rw [hg]; rfl)
end
end KF

set_option Elab.async false
set_option linter.all false
set_option maxRecDepth 100000
set_option maxHeartbeats 4000000
namespace LF
open PySem PySem.Spec PyProof.Rows L2 KF
def bits (z : Str) : List Str := (PySem.Txt.split z c_sl).filter fun s => !decide (s = "")
theorem bits_join {ns : List Str} (h : ∀ n ∈ ns, isNm n = true) : bits (PySem.Txt.join c_sl ns) = ns := by
  unfold bits
  by_cases hne : ns = []
  · subst hne
    rw [join_nil0]
    decide +kernel
  · rw [split_names hne h, List.filter_eq_self]
    intro a ha
    have h1 := (isNm_len (h a ha)).1
    have : a ≠ "" := fun e => by rw [e] at h1; exact absurd h1 (by decide +kernel)
    simp [this]
theorem dp_strs {K : PySem.W.Frag} {H : Hp} : ∀ l : List Str, DpAll K H (l.map V.str) (l.map .str)
  | [] => .nil
  | a :: l => .cons (.str a) (dp_strs l)
theorem eqv_strs : ∀ xs ys : List Str, PyData.eqvAll (xs.map .str) (ys.map .str) = decide (xs = ys)
  | [], [] => by simp [PyData.eqvAll]
  | [], _ :: _ => by simp [PyData.eqvAll]
  | _ :: _, [] => by simp [PyData.eqvAll]
  | x :: xs, y :: ys => by
    show PyData.eqvAll (.str x :: xs.map .str) (.str y :: ys.map .str) = _
    rw [PyData.eqvAll, eqv_strs xs ys]
    show ((x == y) && decide (xs = ys)) = _
    by_cases h1 : x = y <;> by_cases h2 : xs = ys <;> simp [h1, h2]
theorem strOk_low {z : Str} (h : low z) : PyData.strOk z = true := by
  unfold PyData.strOk
  rw [Array.all_eq_true']
  intro c hc
  have h1 := h c (Array.mem_toList_iff.mpr hc)
  have h2 : ∀ d ∈ letters.cps.toList, d < 0x110000 := by decide +kernel
  exact decide_eq_true (h2 c h1)
theorem strOk_join {ns : List Str} (h : ∀ n ∈ ns, isNm n = true) : PyData.strOk (PySem.Txt.join c_sl ns) = true := by
  unfold PyData.strOk
  rw [Array.all_eq_true']
  intro c hc
  have h1 : c ∈ TL.tl (PySem.Txt.join c_sl ns) := Array.mem_toList_iff.mpr hc
  have h2 : ∀ d ∈ letters.cps.toList, d < 0x110000 := by decide +kernel
  rw [TL.join_eq, TL.tl_join, tl_sl] at h1
  refine decide_eq_true ?_
  clear hc
  induction ns with
  | nil => exact nomatch h1
  | cons a l ih =>
    have ha : c ∈ TL.tl a → c < 0x110000 := fun q => h2 c ((isNm_iff.mp (h a List.mem_cons_self)).2 c q)
    cases l with
    | nil => exact ha h1
    | cons b l =>
      have h3 : c ∈ TL.tl a ++ ([47] ++ TL.joinL [47] ((b :: l).map TL.tl)) := h1
      rcases List.mem_append.mp h3 with q | q
      · exact ha q
      · rcases List.mem_append.mp q with q | q
        · rw [List.mem_singleton.mp q]; decide
        · exact ih (fun n hn => h n (List.mem_cons_of_mem _ hn)) q
theorem canLay_strs : ∀ {l : List Str}, (∀ s ∈ l, PyData.strOk s = true) → PyData.canLayAll0 (l.map .str) = true
  | [], _ => by simp [PyData.canLayAll0]
  | a :: l, h => by
    show PyData.canLayAll0 (.str a :: l.map .str) = true
    rw [PyData.canLayAll0, canLay_strs fun s hs => h s (List.mem_cons_of_mem _ hs), PyData.canLay0, h a List.mem_cons_self]
    rfl
theorem shaped_strs {l : List Str} (h : ∀ s ∈ l, PyData.strOk s = true) : SeqAt.shaped (.list (l.map .str)) = true := by
  unfold SeqAt.shaped
  rw [PyData.canLay0, canLay_strs h, Bool.true_and]
  exact decide_eq_true (by rw [PyData.depth, depth_strs]; decide)
theorem eqv_list_strs (xs ys : List Str) : PyData.eqv (.list (xs.map .str)) (.list (ys.map .str)) = decide (xs = ys) := by
  rw [PyData.eqv]; exact eqv_strs _ _
/-- data whose repr is told -/
structure Rok (d : PyData) : Prop where
  sh : d.showable = true
  nd : d.hasDict = false
  dp : d.depth ≤ 60
  ln : d.shown.length ≤ sizeLine
theorem Rok.of {d : PyData} (h1 : d.canLay0 = true) (h2 : d.depth ≤ 60) (h3 : d.weight ≤ 2 ^ 20) (h4 : d.intsShort 13 = true) (h5 : d.showable = true) : Rok d := by
  refine ⟨h5, PyData.hasDict_of_canLay d h1, h2, ?_⟩
  have hl : PyData.layable0 d = true := by
    unfold PyData.layable0
    rw [h1, decide_eq_true (by omega : d.depth ≤ 64), decide_eq_true h3]; rfl
  exact Nat.le_trans (shown_le13 hl h4) (by decide)
theorem weight_strs {n : Nat} : ∀ {l : List Str}, (∀ s ∈ l, s.length ≤ n) → PyData.weightAll (l.map .str) ≤ (n + 1) * l.length
  | [], _ => by simp [PyData.weightAll]
  | a :: l, h => by
    have h1 := weight_strs (n := n) fun s hs => h s (List.mem_cons_of_mem _ hs)
    have h2 := h a List.mem_cons_self
    show PyData.weightAll (.str a :: l.map .str) ≤ _
    rw [PyData.weightAll, PyData.weight, List.length_cons, Nat.mul_succ]
    have e : a.cps.size = a.length := rfl
    omega
theorem ints_strs : ∀ l : List Str, PyData.intsShortAll 13 (l.map .str) = true
  | [] => by simp [PyData.intsShortAll]
  | a :: l => by
    show PyData.intsShortAll 13 (.str a :: l.map .str) = true
    rw [PyData.intsShortAll, ints_strs l]; simp [PyData.intsShort]
theorem show_strs : ∀ l : List Str, PyData.showableAll (l.map .str) = true
  | [] => by simp [PyData.showableAll]
  | a :: l => by
    show PyData.showableAll (.str a :: l.map .str) = true
    rw [PyData.showableAll, show_strs l]; simp [PyData.showable]
theorem rok_tuple {l : List Str} {n : Nat} (h1 : ∀ s ∈ l, PyData.strOk s = true) (h2 : ∀ s ∈ l, s.length ≤ n) (h3 : (n + 1) * l.length ≤ 1000000) : Rok (.tuple (l.map .str)) := by
  refine Rok.of (by rw [PyData.canLay0]; exact canLay_strs h1) (by rw [PyData.depth, depth_strs]; decide) ?_ (by rw [PyData.intsShort]; exact ints_strs l) (by rw [PyData.showable]; exact show_strs l)
  rw [PyData.weight]
  exact Nat.le_trans (Nat.le_trans (weight_strs h2) h3) (by decide)
theorem rok_list {l : List Str} {n : Nat} (h1 : ∀ s ∈ l, PyData.strOk s = true) (h2 : ∀ s ∈ l, s.length ≤ n) (h3 : (n + 1) * l.length ≤ 1000000) : Rok (.list (l.map .str)) := by
  refine Rok.of (by rw [PyData.canLay0]; exact canLay_strs h1) (by rw [PyData.depth, depth_strs]; decide) ?_ (by rw [PyData.intsShort]; exact ints_strs l) (by rw [PyData.showable]; exact show_strs l)
  rw [PyData.weight]
  exact Nat.le_trans (Nat.le_trans (weight_strs h2) h3) (by decide)
theorem rok_str {z : Str} (h1 : PyData.strOk z = true) (h2 : z.length ≤ 1000000) : Rok (.str z) := by
  refine Rok.of (by rw [PyData.canLay0]; exact h1) (by simp [PyData.depth]) ?_ (by simp [PyData.intsShort]) (by simp [PyData.showable])
  rw [PyData.weight]
  exact Nat.le_trans (show z.cps.size ≤ 1000000 from h2) (by decide)
theorem rok_none : Rok .none := Rok.of (by simp [PyData.canLay0]) (by simp [PyData.depth]) (by simp [PyData.weight]) (by simp [PyData.intsShort]) (by simp [PyData.showable])
end LF

set_option Elab.async false
set_option linter.all false
set_option maxRecDepth 100000
set_option maxHeartbeats 8000000
namespace KF
open PySem PySem.Spec PyProof.Rows L2 LF
open Evl (Ev EvL EvU EvT EvA Ex sq_of st_of)
/-- a new dict that is a set of texts -/
def EvS (te : TE) (σ : L2.St) (H : Hp) (dk : List Str) : Prop := ∀ H1, Ex H H1 → ∀ Q : VK, (∀ p H2, H1 p = none → Ex H1 H2 → H2 p = some (.dK (kvT dk)) → Q (.ref p) H2) → te σ H1 Q
section
variable {K : PySem.W.Frag} {σ : L2.St} {H H' : Hp} {te tl : TE} {a : Addr} {zs : List Str} {j : Nat}
theorem EvS.mono (s : Ex H H') (h : EvS te σ H zs) : EvS te σ H' zs := fun H1 e Q q => h H1 (s.trans e) Q q
/-- {x: True for x in tuple} -/
theorem es_dcT (h : Ev tl σ H (.ref a)) (hx : H a = some (.tup (zs.map V.str))) (hz : zs.length ≤ 40000) (hj : ∀ x : V, ((wipe σ [j]).set j (some x))[j]? = some (some x)) :
    EvS (tDc (iTup K tl) (gName j) tYes (tVar j) (tC (.bl true)) [j]) σ H (fnd zs) := fun H0 e Q q => h H0 e _ fun H1 e1 => ⟨a, rfl, ⟨_, st_of ((e.trans e1) _ _ hx)⟩, fun D hD =>
  dc_it (walk_tup (xs := zs.map V.str)) (fun i H' => Ex H1 H' ∧ H' D = some (.dK (kvT (fnd (zs.take i))))) ⟨Ex.new hD, upd_same⟩ (fun i H' _ p => st_of (p.1 _ _ ((e.trans e1) _ _ hx)))
    (fun i x Hb Hc hi ⟨e3, h3⟩ y => by
      obtain ⟨rfl, hx3⟩ := y
      rw [List.getElem?_map] at hx3
      cases hz2 : zs[i]? with
      | none => rw [hz2] at hx3; cases hx3
      | some z =>
        rw [hz2] at hx3
        cases (show some (V.str z) = some x from hx3)
        refine ⟨wipe_set, tyes_if ⟨_, hj _, _, .inr z, rfl, h3, ?_, Ex.mut e3 hD, ?_⟩⟩
        · rw [kvT_len]
          have := fold_len (zs.take i) []
          rw [List.length_take, List.length_nil, Nat.zero_add] at this
          exact Evl.sz_lt (Nat.lt_of_le_of_lt this (by omega))
        · rw [upd_same, put_kvT, List.take_add_one, hz2]
          show _ = some (HO.dK (kvT (fnd (zs.take i ++ [z]))))
          rw [fnd_app]; rfl)
    fun H' ⟨e3, h3⟩ => q D H' (Evl.fresh_back e1 hD) (e1.trans e3) (by rw [List.length_map, List.take_length] at h3; exact h3)⟩
def rListD : List V → Hp → VK → Prop := fun xs H Q => ∃ (a : Addr) (kvs : List (Key × V)), xs = [.ref a] ∧ Rd H a (.dK kvs) ∧ ∀ p, H p = none → Q (.ref p) (upd H p (.lst (kvs.map fun kv => kV kv.1)))
theorem el_listS (h : EvS te σ H zs) : EvL (tCB rListD (tCons te tNil)) σ H (zs.map V.str) := fun H1 e Q q =>
  h H1 e _ fun p H2 hp e2 h2 => ⟨p, _, rfl, Or.inl h2, fun l hl => by rw [kvT_keys]; exact q l _ (Evl.fresh_back e2 hl) (e2.trans (Ex.new hl)) upd_same⟩
theorem el_listT {xs : List V} (ha : Ev te σ H (.ref a)) (h : H a = some (.tup xs)) : EvL (tCB (Evl.rListS K) (tCons te tNil)) σ H xs := fun H1 e Q q =>
  ha H1 e _ fun H2 e2 => ⟨a, xs, rfl, Or.inr (st_of ((e.trans e2) _ _ h)), fun l hl => q l _ (Evl.fresh_back e2 hl) (e2.trans (Ex.new hl)) upd_same⟩
theorem el_order {E : XK} (h : EvL te σ H (zs.map V.str)) (hz : ∀ z ∈ zs, z.length ≤ 1000000) : EvL (tCall (spOrder K) [] E (tCons te tNil)) σ H ((zs.mergeSort (PySem.W.dataLe false keyD)).map V.str) := fun H1 e Q q =>
  h H1 e _ fun p H2 hp e2 h2 => ⟨p, zs, rfl, sq_of h2, hz, fun H3 r s3 hr h3 => q r H3 (Evl.fresh_back e2 hr) (e2.trans s3) h3⟩
theorem rv_eqLL {xs ys : List Str} {p r : Addr} (hx : H p = some (.lst (xs.map V.str))) (hy : H r = some (.lst (ys.map V.str))) (h1 : ∀ z ∈ xs, PyData.strOk z = true) (h2 : ∀ z ∈ ys, PyData.strOk z = true) : Evl.RV (rEqD K) (.ref p) (.ref r) H (.bl (decide (xs = ys))) := fun H1 e Q q =>
  ⟨.list (xs.map .str), .list (ys.map .str), .lst (sq_of (e _ _ hx)) (dp_strs xs), .lst (sq_of (e _ _ hy)) (dp_strs ys), shaped_strs h1, shaped_strs h2, by rw [eqv_list_strs]; exact q H1 (Ex.refl H1)⟩
theorem rv_neLL {xs ys : List Str} {p r : Addr} (hx : H p = some (.lst (xs.map V.str))) (hy : H r = some (.lst (ys.map V.str))) (h1 : ∀ z ∈ xs, PyData.strOk z = true) (h2 : ∀ z ∈ ys, PyData.strOk z = true) : Evl.RV (rNeD K) (.ref p) (.ref r) H (.bl (!decide (xs = ys))) := fun H1 e Q q =>
  ⟨.list (xs.map .str), .list (ys.map .str), .lst (sq_of (e _ _ hx)) (dp_strs xs), .lst (sq_of (e _ _ hy)) (dp_strs ys), shaped_strs h1, shaped_strs h2, by rw [eqv_list_strs]; exact q H1 (Ex.refl H1)⟩
/-- a tuple of texts -/
theorem strs_of : ∀ {vs : List V} {ds : List PyData}, DqAll H vs ds → ds.all isStr = true → vs = (ds.map txt).map V.str ∧ (∀ z ∈ ds.map txt, z.length ≤ 1000 ∧ PyData.strOk z = true)
  | _, _, .nil, _ => ⟨rfl, fun _ h => (nomatch h)⟩
  | _, d :: ds, .cons h1 h2, hs => by
    rw [List.all_cons, Bool.and_eq_true] at hs
    obtain ⟨e1, l1, o1, _⟩ := h1.strE hs.1
    obtain ⟨e2, h3⟩ := strs_of h2 hs.2
    refine ⟨by rw [e1, e2]; rfl, fun z hz => ?_⟩
    rw [List.map_cons] at hz
    rcases List.mem_cons.mp hz with rfl | hz
    · exact ⟨l1, o1⟩
    · exact h3 z hz
end
def sortP (l : List Str) : List Str := l.mergeSort (PySem.W.dataLe false keyD)
def placesD (d : PyData) : Bool := (isTup d && (items d).all pathD) && decide (sortP (fnd ((items d).map txt)) = (items d).map txt)
theorem path_str {d : PyData} (h : pathD d = true) : isStr d = true := by cases d with
  | str z => rfl
  | _ => cases h
theorem path_strs {ds : List PyData} (h : ds.all pathD = true) : ds.all isStr = true := List.all_eq_true.mpr fun d hd => path_str (List.all_eq_true.mp h d hd)
theorem sortP_mem {l : List Str} {z : Str} : z ∈ sortP l ↔ z ∈ l := (List.mergeSort_perm l _).mem_iff
abbrev s_is_list_of_places : Stmt := topS 31
abbrev N_is_list_of_places : List Str := ["thing", "place"]
theorem sc_is_list_of_places : FnScope ["thing", "place"] ["thing"] (defScope s_is_list_of_places) := ⟨rfl, rfl, rfl, by decide +kernel, rfl, by decide +kernel, by decide +kernel⟩
section
variable {P : Program} {w : World} {K : PySem.W.Frag} {mg : Str → Option Value} {base : Heap} {tk1 tk2 : Tok}
theorem ok_places {f f1 f2 : Addr} {fd fd1 fd2 : FuncData} (F : Fun K "is_list_of_places" "is_list_of_places" s_is_list_of_places f fd) (T : Txt K mg tk1 tk2) (n_tuple : mg "tuple" = none) (d_ip : DefAt P w K mg base "is_path" 2 f1 fd1 ["thing"] (spPath K))
    (d_io : DefAt P w K mg base "in_order" 5 f2 fd2 ["paths"] (spOrder K)) : FnOk P w K mg base CX0 6 f fd ["thing"] (spD placesD) := by
  refine F.ok sc_is_list_of_places (fun vs H Q E h => ?_) (fun cdv A outer s H vs Q E hr h => ?_)
  · obtain ⟨x, d, rfl, _⟩ := h
    rfl
  have hu := hr.units
  refine ⟨_, (pss_cons (ps_if (PW.pt (pw_or (pt_not (pt_val (pe_callB call_isi (by rfl) T.n_isinstance (by decide +kernel) (pa_cons (pv 0) (pa_cons (pe_bltn (v := .ty "tuple") (by rfl) n_tuple (by decide +kernel) rfl) pa_nil))))) (pw_or1 (pt_not (pt_val (pe_callB (cr_all rfl) (by rfl) T.n_all (by decide +kernel) (pa_cons (pe_lc (own := [("place", 1)]) rfl sc_is_list_of_places.nd (pi_tup (pv 0)) (blkOk_by (N := N_is_list_of_places) (sc := defScope s_is_list_of_places) (by decide +kernel)) (fun _ _ _ _ _ => pg_name (i := 1) sc_is_list_of_places.nd rfl (Or.inl rfl)) (fun _ _ _ _ _ => pts_nil) (fun _ _ _ _ _ => (pe_callD d_ip (hr.mono (by decide)) (pa_cons (pv 1) pa_nil)))) pa_nil))))))) (pss_one (ps_ret pe_bl)) pss_nil)
    (pss_one (ps_ret (pe_cmpR (op_eqD hu) (pe_callD d_io (hr.mono (by decide)) (pa_cons (pe_callTy (show CallR _ (.type "list") rListD from call_listD rfl) (by rfl) T.n_list (by decide +kernel) (pa_cons (pe_dc (own := [("place", 1)]) rfl sc_is_list_of_places.nd (pi_tup (pv 0)) (blkOk_by (N := N_is_list_of_places) (sc := defScope s_is_list_of_places) (by decide +kernel)) (fun _ _ _ _ _ => pg_name (i := 1) sc_is_list_of_places.nd rfl (Or.inl rfl)) (fun _ _ _ _ _ => pts_nil) (fun _ _ _ _ _ => (pv 1)) (fun _ _ _ _ _ => pe_bl)) pa_nil)) pa_nil)) (pe_callTy call_list_of (by rfl) T.n_list (by decide +kernel) (pa_cons (pv 0) pa_nil)) (nomark _))))), ?_⟩
  obtain ⟨x, d, rfl, hd, hq⟩ := h
  unfold placesD at hq
  have v0 : EvD (tVar 0) [some x, none] H d := evd_var rfl hd
  have c1 : EvT _ [some x, none] H (!isTup d || !(items d).all pathD) := Evl.et_or (Evl.et_not (Evl.et_B (ev_isi (K := K) v0 (kit_tup' d)))) fun h1 =>
    Evl.et_not (Evl.et_B (ev_allT (K := K) (j := 1) pathD v0 (by simpa using h1) fun y d' H1 e1 hd' _ => ev_pathD (K := K) (E := E0) (evd_var (i := 1) rfl hd')))
  refine Evl.q_when c1 (fun h1 H1 e1 => ?_) (fun h1 H1 e1 => ?_)
  · refine Evl.s_ret Evl.ev_c fun H2 e2 => ?_
    have := hq H2 (e1.trans e2)
    have e0 : (isTup d && (items d).all pathD) = false := by
      cases ht : isTup d with
      | false => rfl
      | true => rw [ht] at h1; rw [Bool.true_and]; simpa using h1
    rw [e0, Bool.false_and] at this
    exact this
  rw [Bool.or_eq_false_iff] at h1
  have ht : isTup d = true := by simpa using h1.1
  have hpa : (items d).all pathD = true := by simpa using h1.2
  rw [ht, hpa, Bool.true_and, Bool.true_and] at hq
  obtain ⟨a, xs, rfl, ha, hda, hz, hl⟩ := hd.tupE ht
  obtain ⟨rfl, hstr⟩ := strs_of hda (path_strs hpa)
  rw [List.length_map] at hz
  have hzl : ((items d).map txt).length ≤ 40000 := by omega
  refine Evl.s_ret (Evl.ev_opLL (xs := (sortP (fnd ((items d).map txt))).map V.str) (ys := ((items d).map txt).map V.str) (el_order (K := K) (zs := fnd ((items d).map txt)) (el_listS (es_dcT (K := K) (a := a) (zs := (items d).map txt) (Evl.ev_var (i := 0) rfl) (e1 _ _ ha) hzl (fun _ => rfl))) fun z hz2 => by
      have := (hstr z (mem_fnd.mp hz2)).1; omega) (el_listT (K := K) (Evl.ev_var (i := 0) rfl) (e1 _ _ ha)) fun p r H2 h2 h3 _ => rv_eqLL h2 h3 (fun z hz2 => (hstr z (mem_fnd.mp (sortP_mem.mp hz2))).2) fun z hz2 => (hstr z hz2).2) fun H3 e3 => hq H3 (e1.trans e3)
end
end KF

set_option Elab.async false
set_option linter.all false
set_option maxRecDepth 100000
set_option maxHeartbeats 4000000
namespace LF
open PySem PySem.Spec PyProof.Rows L2
open Evl (Ev EvL EvU EvT EvA EvO Ex sq_of st_of)
theorem TyX.same {K : PySem.W.Frag} {H H' : Hp} {x : V} {t : Value} (h : TyX K H x t) (s : Same H H') : TyX K H' x t := by
  cases h with
  | base b =>
    refine .base ?_
    cases b with
    | non => exact .non
    | bl x => exact .bl x
    | int i => exact .int i
    | str z => exact .str z
    | flt x => exact .flt x
    | lst e => exact .lst (s _ _ e)
    | frz e => exact .frz (s _ _ e)
    | tup e => exact .tup (s _ _ e)
    | dK e => exact .dK (s _ _ e)
    | dT e => exact .dT (s _ _ e)
    | ins e c a n t m => exact .ins (s _ _ e) c a n t m
  | byt b => exact .byt b
  | set e => exact .set (s _ _ e)
  | kList e c => exact .kList e c
  | kTuple e c => exact .kTuple e c
  | kDict e c => exact .kDict e c
  | fTuple e => exact .fTuple (s _ _ e)
  | fDict e => exact .fDict (s _ _ e)
/-- == of data, one of them flat -/
def rEqQ (K : PySem.W.Frag) : R2 := fun x y H Q => ∃ d e, Dp K H x d ∧ Dp K H y e ∧ d.canLay0 = true ∧ e.canLay0 = true ∧ e.depth ≤ 60 ∧ Q (.bl (PyData.eqv d e)) H
theorem op_eqQ {X : Cx} (hu : X.A.units + 64 < cLine) : OpR X (compareOp .Eq) (rEqQ X.K) := by
  intro pins s σ H x y v u Q I rx ry h
  obtain ⟨d, e, hd, he, sd, se, hz, q⟩ := h
  obtain ⟨as, r1⟩ := Dp.reads I d x v hd rx
  obtain ⟨bs, r2⟩ := Dp.reads I e y u he ry
  have h2 : min d.depth e.depth ≤ e.depth := Nat.min_le_right _ _
  exact SeqAt.compareEq_reads r1 r2 sd se (by omega) ⟨.bl _, H, I, rfl, q⟩
section
variable {K : PySem.W.Frag} {σ : L2.St} {H H' : Hp} {ta tb te tx : TE} {t u : TT} {x y z v : V} {d e : PyData}
/-- == '' of anything -/
theorem ev_eqE (h : EvD te σ H d) : Ev (tOp (rEqQ K) te (tC (.str ""))) σ H (.bl (isStr d && decide (txt d = ""))) := by
  obtain ⟨x, h1, h2⟩ := h
  refine Evl.ev_op h1 Evl.ev_c fun H1 e Q q => ⟨d, .str "", Dq.dp _ _ (Dq.same e _ _ h2), .str _, Dq.lay _ _ h2, by simp [PyData.canLay0]; decide +kernel, by simp [PyData.depth], ?_⟩
  have : PyData.eqv d (.str "") = (isStr d && decide (txt d = "")) := by
    cases d <;> simp [PyData.eqv, isStr, txt]
    rw [Bool.eq_iff_iff, beq_iff_eq]; exact decide_eq_true_iff.symm
  rw [this]; exact q H1 (Ex.refl H1)
/-- == () of a tuple -/
theorem ev_eqN (h : EvD te σ H d) (ht : isTup d = true) : Ev (tOp (rEqQ K) te (tTup tNil)) σ H (.bl (decide (((items d).length : Int) = 0))) := by
  obtain ⟨x, h1, h2⟩ := h
  refine Evl.ev_opU h1 (Evl.eu_tup Evl.ea_nil (by simp)) fun p H1 hp e => fun H2 e2 Q q => ⟨d, .tuple [], Dq.dp _ _ (Dq.same (e.trans e2) _ _ h2), .tup (SqT.of (e2 _ _ hp)) .nil, Dq.lay _ _ h2, by simp [PyData.canLay0, PyData.canLayAll0], by simp [PyData.depth, PyData.depthAll], ?_⟩
  have : PyData.eqv d (.tuple []) = decide (((items d).length : Int) = 0) := by
    cases d with
    | tuple ds =>
      cases ds with
      | nil => simp [PyData.eqv, PyData.eqvAll, items]
      | cons a l =>
        simp only [PyData.eqv, PyData.eqvAll, items, List.length_cons]
        exact (decide_eq_false (by omega)).symm
    | _ => cases ht
  rw [this]; exact q H2 (Ex.refl H2)
theorem et_neI {i j : Int} (ha : Ev ta σ H (.int i)) (hb : Ev tb σ H (.int j)) : Ev (tOp rNe ta tb) σ H (.bl (!decide (i = j))) :=
  Evl.ev_is (Evl.ev_op ha hb (Evl.rv_ne rfl)) (by rw [vint_dec])
/-- a comprehension over a text's signs -/
theorem el_lcS {z : Str} {tl : TE} {j : Nat} (ys : List V) (h : Ev tl σ H (.str z)) (hl : ys.length = z.cps.size) (hz : ys.length ≤ 40000)
    (hs : ∀ (i c : Nat) (y : V) (H1 : Hp), Ex H H1 → z.cps[i]? = some c → ys[i]? = some y → Ev te ((wipe σ [j]).set j (some (.str ⟨#[c]⟩))) H1 y) :
    EvL (tLc (iStr tl) (gName j) tYes te [j]) σ H ys := fun H0 e Q q => h H0 e _ fun H1 e1 => ⟨z, rfl, fun Dl hD =>
  ⟨fun i m H' => m = z.cps.size - i ∧ i ≤ z.cps.size ∧ Ex H1 H' ∧ H' Dl = some (.lst (ys.take i)), ⟨z.cps.size, rfl, Nat.zero_le _, Ex.new hD, by rw [List.take_zero]; exact upd_same⟩, fun i m H' hw => by
    obtain ⟨rfl, hi, x1, x2⟩ := hw
    by_cases hlt : i < z.cps.size
    · refine Or.inr ⟨hlt, fun H2 => Ex H1 H2 ∧ H2 Dl = some (.lst (ys.take (i + 1))), fun H2 p => ⟨z.cps.size - (i + 1), by omega, rfl, hlt, p⟩, fun v H2 hy => ?_⟩
      obtain ⟨rfl, c, hc, rfl⟩ := hy
      have hyi : ys[i]? = some ys[i] := List.getElem?_eq_getElem (by omega)
      have key : te ((wipe σ [j]).set j (some (.str ⟨#[c]⟩))) H2 (fun y H4 => ∃ acc, H4 Dl = some (.lst acc) ∧ acc.length < sizeLine ∧ (Ex H1 (upd H4 Dl (.lst (acc ++ [y]))) ∧ upd H4 Dl (.lst (acc ++ [y])) Dl = some (.lst (ys.take (i + 1))))) := by
        refine hs i c _ H2 ((e.trans e1).trans x1) hc hyi H2 (Ex.refl H2) _ fun H4 e4 => ⟨ys.take i, e4 _ _ x2, ?_, Ex.mut (x1.trans e4) hD, ?_⟩
        · rw [List.length_take]; exact Evl.sz_lt (by omega)
        · rw [upd_same, List.take_add_one, hyi]; rfl
      exact ⟨wipe_set, key⟩
    · refine Or.inl ⟨by show z.cps.size ≤ i; omega, q Dl H' (Evl.fresh_back e1 hD) (e1.trans x1) ?_⟩
      rw [List.take_of_length_le (by omega)] at x2
      exact x2⟩⟩
/-- zip(t, t[1:]), t a tuple -/
theorem el_lcZ {tl : TE} {g : TG} {vs : List Nat} {a : Addr} {xs : List V} (ys : List V) (h : ∀ H', Ex H H' → Ev tl σ H' (.ref a)) (hx : H a = some (.tup xs)) (hl : ys.length = xs.length - 1) (hz : xs.length ≤ 40000)
    (hs : ∀ (i : Nat) (x x' y : V) (T : Addr) (H1 : Hp) (R : L2.St → Hp → Prop), Ex H H1 → H1 T = some (.tup [x, x']) → xs[i]? = some x → xs[i + 1]? = some x' → ys[i]? = some y → (∀ σ2, wipe σ2 vs = wipe σ vs → Ev te σ2 H1 y → R σ2 H1) → g (.ref T) (wipe σ vs) H1 R) :
    EvL (tLc (RZ.iZipA K (tCons tl (tCons (tSl (rSlA K) tl (tPart (tC (.int 1))) tNoPart) tNil))) g tYes te vs) σ H ys := fun H0 e0 Q q => by
  refine h H0 e0 H0 (Ex.refl H0) _ fun H1 e1 => ?_
  refine h H1 (e0.trans e1) H1 (Ex.refl H1) _ fun H2 e2 => ⟨1, rfl, ?_⟩
  have hx2 := (e0.trans (e1.trans e2)) _ _ hx
  -- the walk, once the second tuple stands
  have walk : ∀ (b : Addr) (H3 : Hp), Ex H2 H3 → H3 b = some (.tup (xs.drop 1)) → ∀ Dl, H3 Dl = none → ∃ W : Nat → Nat → Hp → Prop, (∃ m, W 0 m (upd H3 Dl (.lst []))) ∧ ∀ i m H, W i m H →
      ((RZ.ItzT K a b).stop i H ∧ Q (.ref Dl) H) ∨ ((RZ.ItzT K a b).go i H ∧ ∃ Nx : Hp → Prop, (∀ H', Nx H' → ∃ m', m' < m ∧ W (i + 1) m' H') ∧ ∀ x H', (RZ.ItzT K a b).yld i H x H' → g x (wipe σ vs) H' fun σ2 H2 => wipe σ2 vs = wipe σ vs ∧ tYes σ2 H2 fun b H3 =>
        if b = true then te σ2 H3 fun y H4 => ∃ acc, H4 Dl = some (.lst acc) ∧ acc.length < sizeLine ∧ Nx (upd H4 Dl (.lst (acc ++ [y]))) else Nx H3) := by
    intro b H3 e3 hb Dl hD
    have e13 := (e1.trans e2).trans e3
    refine ⟨fun i m H' => m = ys.length - i ∧ i ≤ ys.length ∧ Ex H3 H' ∧ H' Dl = some (.lst (ys.take i)), ⟨ys.length, rfl, Nat.zero_le _, Ex.new hD, by rw [List.take_zero]; exact upd_same⟩, fun i m H' hw => ?_⟩
    obtain ⟨rfl, hi, x1, x2⟩ := hw
    have sa : SqT K H' a xs := st_of ((e13.trans x1) _ _ (e0 _ _ hx))
    have sb : SqT K H' b (xs.drop 1) := st_of (x1 _ _ hb)
    by_cases hlt : i < ys.length
    · have g1 : xs[i]? = some xs[i] := List.getElem?_eq_getElem (by omega)
      have g2 : xs[i + 1]? = some xs[i + 1] := List.getElem?_eq_getElem (by omega)
      have g3 : (xs.drop 1)[i]? = some xs[i + 1] := by rw [List.getElem?_drop, Nat.add_comm 1 i]; exact g2
      refine Or.inr ⟨⟨xs, xs.drop 1, _, _, sa, sb, g1, g3⟩, fun H2 => Ex H3 H2 ∧ H2 Dl = some (.lst (ys.take (i + 1))), fun H2 p => ⟨ys.length - (i + 1), by omega, rfl, hlt, p⟩, fun v H4 hy => ?_⟩
      obtain ⟨T, x, x', rfl, hT, rfl, f1, f2⟩ := hy
      have hyi : ys[i]? = some ys[i] := List.getElem?_eq_getElem hlt
      have k1 := (f1 xs sa).symm.trans g1
      have k2 := (f2 _ sb).symm.trans g3
      refine hs i x x' _ T _ _ (e0.trans (e13.trans (x1.trans (Ex.new hT)))) upd_same (f1 xs sa) (by rw [g2, ← k2]) hyi fun σ2 hw hev => ?_
      have key : te σ2 (upd H' T (.tup [x, x'])) (fun y H4 => ∃ acc, H4 Dl = some (.lst acc) ∧ acc.length < sizeLine ∧ (Ex H3 (upd H4 Dl (.lst (acc ++ [y]))) ∧ upd H4 Dl (.lst (acc ++ [y])) Dl = some (.lst (ys.take (i + 1))))) := by
        refine hev _ (Ex.refl _) _ fun H4 e4 => ⟨ys.take i, e4 _ _ ((Ex.new hT) _ _ x2), ?_, Ex.mut (x1.trans ((Ex.new hT).trans e4)) hD, ?_⟩
        · rw [List.length_take]; exact Evl.sz_lt (by omega)
        · rw [upd_same, List.take_add_one, hyi]; rfl
      exact ⟨hw, key⟩
    · refine Or.inl ⟨⟨xs, xs.drop 1, sa, sb, Or.inr (by rw [List.length_drop]; omega)⟩, q Dl H' (Evl.fresh_back e13 hD) (e13.trans x1) ?_⟩
      rw [List.take_of_length_le (by omega)] at x2
      exact x2
  refine ⟨a, xs, rfl, st_of hx2, fun hw => ?_, fun hw p hp => ?_⟩
  · have h0 : xs = [] := by
      have h1 := hw.1
      rw [show (some (1 : Int)) = some ((1 : Nat) : Int) from rfl, HT.sIx_nat] at h1
      exact List.length_eq_zero_iff.mp (by omega)
    refine ⟨a, a, xs, xs, rfl, Or.inr ⟨st_of hx2, st_of hx2, fun Dl hD => ?_⟩⟩
    exact walk a H2 (Ex.refl H2) (by rw [hx2, h0]; rfl) Dl hD
  · have hc : cutV xs (some 1) none = xs.drop 1 := by
      unfold cutV
      rw [HT.sIx_none, show (some (1 : Int)) = some ((1 : Nat) : Int) from rfl, HT.sIx_nat]
      by_cases h0 : 1 ≤ xs.length
      · rw [Nat.min_eq_left h0]
        exact List.take_of_length_le (by rw [List.length_drop]; omega)
      · have : xs = [] := List.length_eq_zero_iff.mp (by omega)
        subst this; rfl
    refine ⟨a, p, xs, xs.drop 1, rfl, Or.inr ⟨st_of ((Ex.new hp) _ _ hx2), st_of (by rw [upd_same, hc]), fun Dl hD => ?_⟩⟩
    exact walk p _ (Ex.new hp) (by rw [upd_same, hc]) Dl hD
/-- all([.. for a, b in zip(t, t[1:])]) -/
theorem ev_allZ {j k : Nat} {tl : TE} (gg : PyData → PyData → Bool) (hxd : Dq H x d) (hvm : ∀ H', Ex H H' → Ev tl σ H' x) (ht : isTup d = true)
    (hw : ∀ x y, wipe ((((wipe σ [j, k]).set j (some x)).set k (some y))) [j, k] = wipe σ [j, k])
    (hs : ∀ x y p q H1, Ex H H1 → p ∈ items d → q ∈ items d → Dq H1 x p → Dq H1 y q → Ev te (((wipe σ [j, k]).set j (some x)).set k (some y)) H1 (.bl (gg p q))) :
    Ev (tCB (rAll K) (tCons (tLc (RZ.iZipA K (tCons tl (tCons (tSl (rSlA K) tl (tPart (tC (.int 1))) tNoPart) tNil))) (gTup K 2 (gCons (gName j) (gCons (gName k) gNil))) tYes te [j, k]) tNil)) σ H
      (.bl ((List.range ((items d).length - 1)).all fun i => gg ((items d).getD i .none) ((items d).getD (i + 1) .none))) := by
  obtain ⟨a, xs, rfl, ha, hd, hz, hl⟩ := hxd.tupE ht
  refine Evl.ev_is (ev_allB (bs := (List.range ((items d).length - 1)).map fun i => gg ((items d).getD i .none) ((items d).getD (i + 1) .none)) ?_) (by rw [List.all_map]; rfl)
  refine el_lcZ (K := K) _ hvm ha (by rw [List.length_map, List.length_map, List.length_range, hl]) (by omega) fun i x x' y T H1 R e hT hx hx' hy kk => ?_
  obtain ⟨p, hp, dp⟩ := hd.get i hx
  obtain ⟨q, hq, dq⟩ := hd.get (i + 1) hx'
  have hi : i < (items d).length - 1 := by
    have := (List.getElem?_eq_some_iff.mp hq).1
    omega
  rw [List.getElem?_map, List.getElem?_map, List.getElem?_eq_getElem (by rw [List.length_range]; exact hi)] at hy
  simp only [List.getElem_range, Option.map_some, Option.some.injEq] at hy
  rw [List.getD_eq_getElem?_getD, List.getD_eq_getElem?_getD, hp, hq] at hy
  subst hy
  exact ⟨T, [x, x'], rfl, st_of hT, rfl, x, [x'], rfl, x', [], rfl, rfl, kk _ (hw x x') (hs x x' p q H1 e (List.mem_of_getElem? hp) (List.mem_of_getElem? hq) (Dq.same e _ _ dp) (Dq.same e _ _ dq))⟩
end
end LF

set_option Elab.async false
set_option linter.all false
set_option maxRecDepth 100000
set_option maxHeartbeats 4000000
namespace LF
open PySem PySem.Spec PyProof.Rows L2
open PySem.W (alike dataLt)
/-- < of data that is alike -/
def rLtQ (K : PySem.W.Frag) : R2 := fun x y H Q => ∃ d e, Dp K H x d ∧ Dp K H y e ∧ alike d e = true ∧ d ≠ .none ∧ e.depth ≤ 60 ∧ Q (.bl (dataLt d e)) H
theorem op_ltQ {X : Cx} (hu : X.A.units + 64 < cLine) : OpR X (compareOp .Lt) (rLtQ X.K) := by
  intro pins s σ H x y v u Q I rx ry h
  obtain ⟨d, e, hd, he, al, hn, hz, q⟩ := h
  obtain ⟨as, r1⟩ := Dp.reads I d x v hd rx
  obtain ⟨bs, r2⟩ := Dp.reads I e y u he ry
  have h2 : min d.depth e.depth ≤ e.depth := Nat.min_le_right _ _
  exact PySem.W.lt_data r1 r2 al hn (by omega) ⟨.bl _, H, I, rfl, q⟩
/-- d.update(e) -/
def rDUpd : V → List V → Hp → VK → Prop := fun x vs H Q => ∃ (a c : Addr) (kvs more : List (Key × V)), x = .ref a ∧ vs = [.ref c] ∧ a ≠ c ∧ H a = some (.dK kvs) ∧ H c = some (.dK more) ∧ kvs.length + more.length ≤ 1000 ∧ Q .non (upd H a (.dK (mergeK kvs more)))
theorem mtd_update {X : Cx} : MtR X "dict.update" rDUpd := by
  intro pins s σ H x vs v us Q I rx rv h
  obtain ⟨a, c, kvs, more, ex, ev, nac, ha, hc, hz, q⟩ := h
  subst ex
  subst ev
  obtain rfl : v = Value.ref a := rx
  obtain ⟨u, eu, ru⟩ := vals1 rv
  subst eu
  obtain rfl : u = Value.ref c := ru
  obtain ⟨z1, hd1, vs1, rel1, dd1⟩ := dk_of I.hok ha
  obtain ⟨z2, hd2, vs2, rel2, dd2⟩ := dk_of I.hok hc
  have hbig : (1000 : Nat) ≤ sizeLine := by decide
  refine call_meetsIn PySem.F.slot_dict_update dd1.typeIs PySem.F.entry_dict_update (PySem.F.args_dict_update_2 _ _) (meets_dict_update (mixKind X.prog X.w) a c nac hd2) ⟨vs1, vs2, dd1, dd2, by rw [← rel1.length, ← rel2.length]; omega, fun h' dd' _ hs => ?_⟩
  have he : ∃ q, h'.get? a = some q := let ⟨q, _, _, hq, _⟩ := dd'; ⟨q, hq⟩
  have hl := length_mergeK more kvs
  exact ⟨.non, _, d_write (t' := s.toks) I (by rw [ha]; exact True.intro) hs he (dk_new (by omega) hd1 (rel2.merge rel1) dd'), rfl, q⟩
section
variable {X : Cx} {o e : Expr} {es : List Expr} {to : TE} {apos cpos : Pos}
end
end LF

set_option Elab.async false
set_option linter.all false
set_option maxRecDepth 100000
set_option maxHeartbeats 8000000
namespace KF
open PySem PySem.Spec PyProof.Rows L2 LF
open Evl (Ev EvL EvU EvT EvA Ex sq_of st_of)
theorem nd_len : ∀ {l m : List Str}, l.Nodup → (∀ x ∈ l, x ∈ m) → l.length ≤ m.length
  | [], _, _, _ => Nat.zero_le _
  | a :: l, m, nd, h => by
    rw [List.nodup_cons] at nd
    have ha := h a List.mem_cons_self
    have h1 := nd_len (l := l) (m := m.erase a) nd.2 fun x hx => (List.mem_erase_of_ne (fun e => nd.1 (by rw [← e]; exact hx))).mpr (h x (List.mem_cons_of_mem _ hx))
    have h2 := List.length_erase_of_mem ha
    have h3 : 0 < m.length := List.length_pos_of_mem ha
    rw [List.length_cons]; omega
theorem merge_kvT : ∀ (b a : List Str), mergeK (kvT a) (kvT b) = kvT (b.foldl addT a)
  | [], _ => rfl
  | t :: b, a => by
    show mergeK (putK (kvT a) (.inr t) (.bl true)) (kvT b) = _
    rw [put_kvT, merge_kvT b]; rfl
structure RowsOk (its : List (Str × List V)) (rw : List (Str × List Str)) (U : List Str) : Prop where
  nd : (rw.map (·.1)).Nodup
  has : ∀ t ∈ refsI its, t ∈ rw.map (·.1)
  u : ∀ r ∈ rw, ∀ z ∈ r.2, z ∈ U
  l : ∀ r ∈ rw, r.2.length ≤ 250
  ul : U.length ≤ 250
  uz : ∀ z ∈ U, z.length ≤ 1000
  kz : ∀ r ∈ its, r.1.length ≤ 1000
def stepI (rw : List (Str × List Str)) (l : Str) (acc : List Str) (v : V) : List Str := match strOf v with
  | none => addT acc l
  | some t => (getE rw t).foldl addT (addT acc l)
def stepP (its : List (Str × List V)) (rw : List (Str × List Str)) (name : Str) (acc : List Str) (place : Str) : List Str := (getI its (jn place name)).foldl (stepI rw (jn place name)) acc
def stepN (its : List (Str × List V)) (rw : List (Str × List Str)) (places : List Str) (name : Str) : List Str := places.foldl (stepP its rw name) []
def readS (its : List (Str × List V)) (rw : List (Str × List Str)) (z : Str) : List Str := (parts z).foldl (stepN its rw) [("" : Str)]
/-- what may be found -/
structure Good (its : List (Str × List V)) (U acc : List Str) : Prop where
  nd : acc.Nodup
  m : ∀ z ∈ acc, z ∈ its.map (·.1) ∨ z ∈ U
theorem Good.len {its : List (Str × List V)} {U acc : List Str} (h : Good its U acc) (hk : its.length ≤ 240) (hu : U.length ≤ 250) : acc.length ≤ 490 := by
  have := nd_len (m := its.map (·.1) ++ U) h.nd fun x hx => List.mem_append.mpr (h.m x hx)
  rw [List.length_append, List.length_map] at this
  omega
theorem Good.add {its : List (Str × List V)} {U acc : List Str} {l : Str} (h : Good its U acc) (hl : l ∈ its.map (·.1) ∨ l ∈ U) : Good its U (addT acc l) :=
  ⟨addT_nd h.nd, fun z hz => (mem_addT.mp hz).elim (h.m z) fun e => e ▸ hl⟩
theorem Good.adds {its : List (Str × List V)} {U acc : List Str} : ∀ {ls : List Str}, Good its U acc → (∀ l ∈ ls, l ∈ U) → Good its U (ls.foldl addT acc)
  | [], h, _ => h
  | l :: ls, h, hl => Good.adds (acc := addT acc l) (ls := ls) (h.add (Or.inr (hl l List.mem_cons_self))) fun x hx => hl x (List.mem_cons_of_mem _ hx)
theorem getE_in {rw : List (Str × List Str)} {t : Str} (nd : (rw.map (·.1)).Nodup) (h : t ∈ rw.map (·.1)) : ∃ r ∈ rw, r.1 = t ∧ getE rw t = r.2 := by
  obtain ⟨r, hr, rfl⟩ := List.mem_map.mp h
  exact ⟨r, hr, rfl, getE_mem nd hr⟩
theorem Good.item {its : List (Str × List V)} {rw : List (Str × List Str)} {U acc : List Str} {l : Str} {v : V} (h : Good its U acc) (R : RowsOk its rw U) (hl : l ∈ its.map (·.1)) (hv : ∀ t, strOf v = some t → t ∈ rw.map (·.1)) : Good its U (stepI rw l acc v) := by
  unfold stepI
  cases hs : strOf v with
  | none => exact h.add (Or.inl hl)
  | some t =>
    obtain ⟨r, hr, _, hg⟩ := getE_in R.nd (hv t hs)
    show Good its U ((getE rw t).foldl addT (addT acc l))
    rw [hg]
    exact (h.add (Or.inl hl)).adds (R.u r hr)
theorem ref_in {its : List (Str × List V)} {r : Str × List V} {v : V} {t : Str} (hr : r ∈ its) (hv : v ∈ r.2) (ht : strOf v = some t) : t ∈ refsI its :=
  List.mem_flatMap.mpr ⟨r, hr, List.mem_filterMap.mpr ⟨v, hv, ht⟩⟩
theorem Good.items {its : List (Str × List V)} {rw : List (Str × List Str)} {U : List Str} {l : Str} (R : RowsOk its rw U) (hl : l ∈ its.map (·.1)) : ∀ {vs : List V} {acc : List Str}, Good its U acc → (∀ v ∈ vs, ∀ t, strOf v = some t → t ∈ rw.map (·.1)) → Good its U (vs.foldl (stepI rw l) acc)
  | [], _, h, _ => h
  | v :: vs, acc, h, hv => Good.items R hl (vs := vs) (h.item R hl (hv v List.mem_cons_self)) fun x hx => hv x (List.mem_cons_of_mem _ hx)
theorem Good.place {its : List (Str × List V)} {rw : List (Str × List Str)} {U acc : List Str} {name place : Str} (R : RowsOk its rw U) (nd : (its.map (·.1)).Nodup) (h : Good its U acc) : Good its U (stepP its rw name acc place) := by
  unfold stepP
  by_cases hl : jn place name ∈ its.map (·.1)
  · obtain ⟨r, hr, he⟩ := List.mem_map.mp hl
    rw [← he, getI_mem nd hr]
    exact Good.items R (by rw [he]; exact hl) h fun v hv t ht => R.has t (ref_in hr hv ht)
  · rw [getI_no hl]; exact h
theorem Good.places {its : List (Str × List V)} {rw : List (Str × List Str)} {U : List Str} {name : Str} (R : RowsOk its rw U) (nd : (its.map (·.1)).Nodup) : ∀ {ps acc : List Str}, Good its U acc → Good its U (ps.foldl (stepP its rw name) acc)
  | [], _, h => h
  | p :: ps, acc, h => Good.places R nd (ps := ps) (h.place R nd)
theorem Good.nil {its : List (Str × List V)} {U : List Str} : Good its U [] := ⟨.nil, fun _ h => (nomatch h)⟩
/-- the places so far -/
def Pls (its : List (Str × List V)) (U pl : List Str) : Prop := pl = [("" : Str)] ∨ Good its U pl
theorem Pls.facts {its : List (Str × List V)} {rw : List (Str × List Str)} {U pl : List Str} (R : RowsOk its rw U) (hk : its.length ≤ 240) (h : Pls its U pl) : pl.length ≤ 490 ∧ ∀ z ∈ pl, z.length ≤ 1000 := by
  rcases h with rfl | h
  · exact ⟨by decide, fun z hz => by rw [List.mem_singleton.mp hz]; decide +kernel⟩
  · refine ⟨h.len hk R.ul, fun z hz => ?_⟩
    rcases h.m z hz with h1 | h1
    · obtain ⟨r, hr, rfl⟩ := List.mem_map.mp h1
      exact R.kz r hr
    · exact R.uz z h1
def spRead : Sp := fun vs H Q _ => ∃ (q r : Addr) (rs : List IR) (rw : List ER) (U : List Str) (z : Str), vs = [.ref q, .ref r, .str z] ∧ Its H q rs ∧ ItO (bareI rs) ∧ EndA H r rw ∧ RowsOk (bareI rs) (bareE rw) U ∧ z.length ≤ 1000 ∧
  ∀ H' p, Ex H H' → H p = none → H' p = some (.dK (kvT (readS (bareI rs) (bareE rw) z))) → Q (.ref p) H'
abbrev s_read_by : Stmt := topS 32
abbrev N_read_by : List Str := ["items", "rows", "path", "places", "name", "after", "place", "longer", "item"]
theorem sc_read_by : FnScope ["items", "rows", "path", "places", "name", "after", "place", "longer", "item"] ["items", "rows", "path"] (defScope s_read_by) := ⟨rfl, rfl, rfl, by decide +kernel, rfl, by decide +kernel, by decide +kernel⟩
section
variable {P : Program} {w : World} {K : PySem.W.Frag} {mg : Str → Option Value} {base : Heap} {tk1 tk2 : Tok}
theorem ok_read {f f1 f2 : Addr} {fd fd1 fd2 : FuncData} (F : Fun K "read_by" "read_by" s_read_by f fd) (T : Txt K mg tk1 tk2) (d_sp : DefAt P w K mg base "split_path" 1 f1 fd1 ["path"] spSplit) (d_jn : DefAt P w K mg base "joined" 1 f2 fd2 ["path", "name"] spJn) : FnOk P w K mg base CX0 2 f fd ["items", "rows", "path"] spRead := by
  refine F.ok sc_read_by (fun vs H Q E h => ?_) (fun cdv A outer s H vs Q E hr h => ?_)
  · obtain ⟨q, r, rs, rw, U, z, rfl, _⟩ := h
    rfl
  have hu1 := hu_of hr
  refine ⟨_, (pss_cons (ps_set (i := 3) sc_read_by.nd rfl (Or.inl rfl) (pe_disp (pps_cons pe_str pe_bl pps_nil) rfl rfl (fun h => nomatch h) (by decide)))
    (pss_cons (ps_for PassesOwn.never rfl (pi_list (pe_callD d_sp (hr.mono (by decide)) (pa_cons (pv 2) pa_nil))) (pg_name (i := 4) sc_read_by.nd rfl (Or.inl rfl)) (pss_cons (ps_set (i := 5) sc_read_by.nd rfl (Or.inl rfl) pe_dnewK)
    (pss_cons (ps_lock (ps_for PassesOwn.never rfl (pi_keys (pv 3)) (pg_name (i := 6) sc_read_by.nd rfl (Or.inl rfl)) (pss_cons (ps_set (i := 7) sc_read_by.nd rfl (Or.inl rfl) (pe_callD d_jn (hr.mono (by decide)) (pa_cons (pv 6) (pa_cons (pv 4) pa_nil))))
    (pss_one (ps_for PassesOwn.never rfl (PI.or (pi_list (pe_dget2 hu1 (pv 0) (pv 7) (pe_tup pa_nil) ⟨rfl, rfl, rfl, rfl⟩)) (pi_tup (pe_dget2 hu1 (pv 0) (pv 7) (pe_tup pa_nil) ⟨rfl, rfl, rfl, rfl⟩))) (pg_name (i := 8) sc_read_by.nd rfl (Or.inl rfl)) (pss_cons (ps_dput hu1 (pv 5) (pv 7) pe_bl rfl)
    (pss_one (ps_if (pt_val (pe_callB call_isi (by rfl) T.n_isinstance (by decide +kernel) (pa_cons (pv 8) (pa_cons (pe_bltn (v := .ty "str") (by rfl) T.n_str (by decide +kernel) rfl) pa_nil)))) (pss_one (ps_expr (pe_bm PySem.F.plainAttrs_dict PySem.F.slot_dict_update PySem.F.type_dict_update mtd_update (pv 5) (pa_cons (pe_dget hu1 (pv 1) (pv 8) (fun _ _ => rfl)) pa_nil)))) pss_nil))))))))
    (pss_one (ps_set (i := 3) sc_read_by.nd rfl (Or.inl rfl) (pv 5))))))
    (pss_one (ps_ret (pv 3))))), ?_⟩
  obtain ⟨q, r, rs, rw, U, z, rfl, hit, hO, hrw, R, hz, hq⟩ := h
  have ndk : (rs.map (·.1)).Nodup := by rw [← bareI_keys]; exact hO.nd
  have ndr : (rw.map (·.1)).Nodup := by rw [← bareE_keys]; exact R.nd
  have hkI : (bareI rs).length ≤ 240 := hO.sz.k
  intro P0 hP0
  refine ⟨upd_same, [(.inr "", .bl true)], rfl, (by show 1 ≤ 15; decide), ?_⟩
  have eG0 : Ex H (upd (upd H P0 (.dK [])) P0 (.dK (mergeK [] [(.inr "", .bl true)]))) := Ex.mut (Ex.new hP0) hP0
  have hG0 : (upd (upd H P0 (.dK [])) P0 (.dK (mergeK [] [(.inr "", .bl true)]))) P0 = some (.dK (kvT [("" : Str)])) := by rw [upd_same]; rfl
  generalize (upd (upd H P0 (.dK [])) P0 (.dK (mergeK [] [(.inr "", .bl true)]))) = G at eG0 hG0
  refine ⟨_, rfl, z, rfl, by omega, fun H1 S e1 hS hS1 => ⟨S, rfl, ⟨_, sq_of hS1⟩, ?_⟩⟩
  have hSH : H S = none := Evl.fresh_back eG0 hS
  have nPS : P0 ≠ S := ne_of_none hG0 hS
  have eHB : Ex H (upd H S (.lst ((parts z).map V.str))) := Ex.new hSH
  have hBS : (upd H S (.lst ((parts z).map V.str))) S = some (.lst ((parts z).map V.str)) := upd_same
  have eB1 : Ex (upd H S (.lst ((parts z).map V.str))) H1 := fun a o h => by
    by_cases n : a = S
    · subst n; rw [upd_same] at h; rw [← h]; exact hS1
    · rw [upd_ne n] at h; exact e1 _ _ (eG0 _ _ h)
  have hBP : (upd H S (.lst ((parts z).map V.str))) P0 = none := by rw [upd_ne nPS]; exact hP0
  generalize (upd H S (.lst ((parts z).map V.str))) = B at eHB hBS eB1 hBP
  refine for_it (walk_list (xs := (parts z).map V.str)) (fun i σ H' => ∃ (Pa : Addr) (v4 v5 v6 v7 v8 : Option V), σ = [some (.ref q), some (.ref r), some (.str z), some (.ref Pa), v4, v5, v6, v7, v8] ∧ Ex B H' ∧ B Pa = none ∧ H' Pa = some (.dK (kvT (((parts z).take i).foldl (stepN (bareI rs) (bareE rw)) [("" : Str)]))) ∧ Pls (bareI rs) U (((parts z).take i).foldl (stepN (bareI rs) (bareE rw)) [("" : Str)]))
    ⟨P0, none, none, none, none, none, rfl, eB1, hBP, e1 _ _ hG0, Or.inl rfl⟩ (fun i σ H' _ ⟨_, _, _, _, _, _, _, e, _⟩ => sq_of (e _ _ hBS)) ?_ ?_
  · rintro i x σ H2' H2 hi ⟨Pa, v4, v5, v6, v7, v8, rfl, e2, hBa, hPa, hpls⟩ ⟨rfl, hx⟩
    rw [List.getElem?_map] at hx
    cases hnm : (parts z)[i]? with
    | none => rw [hnm] at hx; cases hx
    | some nm =>
    rw [hnm] at hx
    cases (show some (V.str nm) = some x from hx)
    have hnl : nm.length ≤ 1000 := Nat.le_trans (parts_mem_len (List.mem_of_getElem? hnm)) hz
    have enext : ((parts z).take (i + 1)).foldl (stepN (bareI rs) (bareE rw)) [("" : Str)] = stepN (bareI rs) (bareE rw) (((parts z).take i).foldl (stepN (bareI rs) (bareE rw)) [("" : Str)]) nm := by
      rw [List.take_add_one, hnm, List.foldl_append]; rfl
    rw [enext]
    generalize ((parts z).take i).foldl (stepN (bareI rs) (bareE rw)) [("" : Str)] = pl at hPa hpls
    obtain ⟨hpl1, hpl2⟩ := hpls.facts R hkI
    intro A hA
    have nPA : Pa ≠ A := ne_of_none hPa hA
    have hBA : B A = none := Evl.fresh_back e2 hA
    have hPa2 : (upd H2 A (.dK [])) Pa = some (.dK (kvT pl)) := by rw [upd_ne nPA]; exact hPa
    have hAA : (upd H2 A (.dK [])) A = some (.dK []) := upd_same
    have e3 : Ex B (upd H2 A (.dK [])) := Ex.mut e2 hBA
    generalize (upd H2 A (.dK [])) = H3 at hPa2 hAA e3
    refine ⟨Pa, _, hPa2, True.intro, fun od => ?_⟩
    refine ⟨_, rfl, Pa, od, rfl, Or.inl ⟨kvT pl, upd_same, ?_⟩⟩
    refine for_it walk_keys (fun j σ H' => ∃ (v6 v7 v8 : Option V), σ = [some (.ref q), some (.ref r), some (.str z), some (.ref Pa), some (.str nm), some (.ref A), v6, v7, v8] ∧ Ex B H' ∧ H' Pa = some (.frz od (.dK (kvT pl))) ∧ H' A = some (.dK (kvT ((pl.take j).foldl (stepP (bareI rs) (bareE rw) nm) []))))
      ⟨v6, v7, v8, rfl, Ex.mut e3 hBa, upd_same, by rw [upd_ne nPA.symm]; exact hAA⟩ (fun j σ H' _ ⟨_, _, _, _, _, h, _⟩ => h) ?_ ?_
    · rintro j x σ H4' H4 hj ⟨v6, v7, v8, rfl, e4, hP4, hA4⟩ ⟨rfl, k, v, hk, rfl⟩
      obtain ⟨place, hpj, rfl⟩ : ∃ place, pl[j]? = some place ∧ k = .inr place := by
        unfold kvT at hk
        rw [List.getElem?_map] at hk
        cases hp : pl[j]? with
        | none => rw [hp] at hk; cases hk
        | some pp => rw [hp] at hk; cases hk; exact ⟨pp, rfl, rfl⟩
      have ej : (pl.take (j + 1)).foldl (stepP (bareI rs) (bareE rw) nm) [] = stepP (bareI rs) (bareE rw) nm ((pl.take j).foldl (stepP (bareI rs) (bareE rw) nm) []) place := by
        rw [List.take_add_one, hpj, List.foldl_append]; rfl
      rw [ej]
      have gd : Good (bareI rs) U ((pl.take j).foldl (stepP (bareI rs) (bareE rw) nm) []) := Good.places R hO.nd Good.nil
      generalize (pl.take j).foldl (stepP (bareI rs) (bareE rw) nm) [] = acc at hA4 gd
      refine Evl.q_asg (ev_jn (Evl.ev_var (i := 6) rfl) (Evl.ev_var (i := 4) rfl) (by have := hpl2 place (List.mem_of_getElem? hpj); omega) (by omega)) fun H5 e5 => ?_
      have e5b := e4.trans e5
      have hP5 := e5 _ _ hP4
      have hA5 := e5 _ _ hA4
      have hit5 := hit.ex (eHB.trans e5b)
      by_cases hl : jn place nm ∈ rs.map (·.1)
      · obtain ⟨r0, hr0, hr0e⟩ := List.mem_map.mp hl
        have hg : getI (bareI rs) (jn place nm) = r0.2.2 := by rw [← hr0e]; exact getI_mem (r := (r0.1, r0.2.2)) hO.nd (List.mem_map.mpr ⟨r0, hr0, rfl⟩)
        have hmem : (r0.1, r0.2.2) ∈ bareI rs := List.mem_map.mpr ⟨r0, hr0, rfl⟩
        have hpl := (hO.sz.v (r0.1, r0.2.2) hmem).2
        have hlk : jn place nm ∈ (bareI rs).map (·.1) := by rw [bareI_keys]; exact hl
        have hrefs : ∀ v ∈ r0.2.2, ∀ t, strOf v = some t → t ∈ (bareE rw).map (·.1) := fun v hv t ht => R.has t (ref_in hmem hv ht)
        refine Or.inl (ev_dgetT (k := .inr (jn place nm)) (Evl.ev_var (i := 0) rfl) (Evl.ev_var (i := 7) rfl) hit5.d (by rw [← hr0e]; exact val_ikv ndk hr0) H5 (Ex.refl H5) _ fun H6 e6 => ⟨r0.2.1, rfl, ⟨_, sq_of ((hit5.ex e6).l r0 hr0)⟩, ?_⟩)
        have eBl : B r0.2.1 = some (.lst r0.2.2) := eHB _ _ (hit.l r0 hr0)
        refine for_it (walk_list (xs := r0.2.2)) (fun n σ H' => ∃ (v8 : Option V), σ = [some (.ref q), some (.ref r), some (.str z), some (.ref Pa), some (.str nm), some (.ref A), some (.str place), some (.str (jn place nm)), v8] ∧ Ex B H' ∧ H' Pa = some (.frz od (.dK (kvT pl))) ∧ H' A = some (.dK (kvT ((r0.2.2.take n).foldl (stepI (bareE rw) (jn place nm)) acc))))
          ⟨v8, rfl, e5b.trans e6, e6 _ _ hP5, e6 _ _ hA5⟩ (fun n σ H' _ ⟨_, _, e, _⟩ => sq_of (e _ _ eBl)) ?_ ?_
        · rintro n x σ H7' H7 hn ⟨v8, rfl, e7, hP7, hA7⟩ ⟨rfl, hx7⟩
          have hxm := List.mem_of_getElem? hx7
          have en : (r0.2.2.take (n + 1)).foldl (stepI (bareE rw) (jn place nm)) acc = stepI (bareE rw) (jn place nm) ((r0.2.2.take n).foldl (stepI (bareE rw) (jn place nm)) acc) x := by
            rw [List.take_add_one, hx7, List.foldl_append]; rfl
          rw [en]
          have gd2 : Good (bareI rs) U ((r0.2.2.take n).foldl (stepI (bareE rw) (jn place nm)) acc) := Good.items R hlk gd fun v hv => hrefs v (List.mem_of_mem_take hv)
          generalize (r0.2.2.take n).foldl (stepI (bareE rw) (jn place nm)) acc = ac at hA7 gd2
          have hal := gd2.len hkI R.ul
          have gd3 := gd2.add (Or.inl hlk)
          have hal3 := gd3.len hkI R.ul
          refine ⟨_, rfl, _, rfl, A, _, rfl, DPut.k (k := Sum.inr (jn place nm)) hA7 (by rw [kvT_len]; exact Evl.sz_lt (by omega)), ?_⟩
          rw [put_kvT]
          have e8 : Ex B (upd H7 A (.dK (kvT (addT ac (jn place nm))))) := Ex.mut e7 hBA
          have hP8 : (upd H7 A (.dK (kvT (addT ac (jn place nm))))) Pa = some (.frz od (.dK (kvT pl))) := by rw [upd_ne nPA]; exact hP7
          have hA8 : (upd H7 A (.dK (kvT (addT ac (jn place nm))))) A = some (.dK (kvT (addT ac (jn place nm)))) := upd_same
          generalize (upd H7 A (.dK (kvT (addT ac (jn place nm))))) = H8 at e8 hP8 hA8
          refine Evl.s_when (Evl.et_B (ev_isiV (Evl.ev_var (i := 8) rfl) (hpl x hxm).1)) (fun hr1 H9 e9 => ?_) (fun hr1 H9 e9 => ?_)
          · obtain ⟨t, rfl⟩ := isRef_of hr1
            obtain ⟨w0, hw0, hwt, hwg⟩ : ∃ w0 ∈ rw, w0.1 = t ∧ getE (bareE rw) t = w0.2.2 := by
              have := hrefs _ hxm t rfl
              rw [bareE_keys] at this
              obtain ⟨w0, hw0, rfl⟩ := List.mem_map.mp this
              exact ⟨w0, hw0, rfl, getE_mem (r := (w0.1, w0.2.2)) R.nd (List.mem_map.mpr ⟨w0, hw0, rfl⟩)⟩
            have hrw9 := hrw.ex (eHB.trans (e8.trans e9))
            have hwl : w0.2.2.length ≤ 250 := R.l (w0.1, w0.2.2) (List.mem_map.mpr ⟨w0, hw0, rfl⟩)
            have nAw : A ≠ w0.2.1 := fun e => by rw [e, eHB _ _ (hrw.l w0 hw0)] at hBA; cases hBA
            refine ⟨_, rfl, Or.inr (Or.inr (Or.inl ⟨rfl, Or.inl ⟨_, e9 _ _ hA8⟩⟩)), _, rfl, _, rfl, r, .ref w0.2.1, rfl, by have g := DGet.k (k := Sum.inr t) hrw9.d; rw [← hwt, val_ekv ndr hw0] at g; rw [← hwt]; exact g, A, w0.2.1, _, _, rfl, rfl, nAw, e9 _ _ hA8, hrw9.l w0 hw0, by rw [kvT_len, kvT_len]; omega, ?_⟩
            rw [merge_kvT]
            refine ⟨_, rfl, Ex.mut (e8.trans e9) hBA, by rw [upd_ne nPA]; exact e9 _ _ hP8, ?_⟩
            rw [upd_same]
            show some (HO.dK (kvT (w0.2.2.foldl addT (addT ac (jn place nm))))) = some (HO.dK (kvT ((getE (bareE rw) t).foldl addT (addT ac (jn place nm)))))
            rw [hwg]
          · refine ⟨_, rfl, e8.trans e9, e9 _ _ hP8, ?_⟩
            unfold stepI
            rw [isRef_no hr1]
            exact e9 _ _ hA8
        · rintro σ H7 ⟨v8, rfl, e7, hP7, hA7⟩
          rw [List.take_length] at hA7
          refine ⟨_, _, _, rfl, e7, hP7, ?_⟩
          unfold stepP
          rw [hg]; exact hA7
      · have hg : getI (bareI rs) (jn place nm) = [] := getI_no (by rw [bareI_keys]; exact hl)
        refine Or.inr (eu_dgetT (k := .inr (jn place nm)) (Evl.ev_var (i := 0) rfl) (Evl.ev_var (i := 7) rfl) hit5.d (val_ikv_no hl) H5 (Ex.refl H5) _ fun p H6 hp6 e6 h6 => ⟨p, rfl, ⟨[], st_of h6⟩, ?_⟩)
        refine for_it (walk_tup (xs := [])) (fun n σ H' => σ = [some (.ref q), some (.ref r), some (.str z), some (.ref Pa), some (.str nm), some (.ref A), some (.str place), some (.str (jn place nm)), v8] ∧ H' = H6) ⟨rfl, rfl⟩ (fun n σ H' _ h => by rw [h.2]; exact st_of h6) (fun n x σ H' H'' hn => absurd hn (Nat.not_lt_zero n)) ?_
        rintro σ H7 ⟨rfl, rfl⟩
        refine ⟨_, _, _, rfl, e5b.trans e6, e6 _ _ hP5, ?_⟩
        unfold stepP
        rw [hg]; exact e6 _ _ hA5
    · rintro σ H4 ⟨v6, v7, v8, rfl, e4, hP4, hA4⟩
      rw [kvT_len, List.take_length] at hA4
      refine ⟨hP4, _, rfl, A, _, _, _, _, _, rfl, Ex.mut e4 hBa, hBA, by rw [upd_ne nPA.symm]; exact hA4, Or.inr (Good.places R hO.nd Good.nil)⟩
  · rintro σ H2 ⟨Pa, v4, v5, v6, v7, v8, rfl, e2, hBa, hPa, hpls⟩
    rw [List.length_map, List.take_length] at hPa
    exact ⟨_, rfl, hq _ Pa (eHB.trans e2) (Evl.fresh_back eHB hBa) hPa⟩
end
end KF

set_option Elab.async false
set_option linter.all false
set_option maxRecDepth 100000
set_option maxHeartbeats 8000000
namespace LF
open PySem PySem.Spec PyProof.Rows L2
/-- a value that is not changed from here on -/
def tFz (t : TE) : TE := fun σ H Q => t σ H fun x H1 => ∃ d u, x = .ref d ∧ H1 d = some u ∧ Mut (some u) ∧ ∀ od, Q x (upd H1 d (.frz od u))
theorem pe_frz {X : Cx} {e : Expr} {t : TE} (h : PE X e t) : PE X e (tFz t) :=
  ⟨fun pins s σ H Q I q => thn (h.run pins s σ H _ I q) fun v s1 ⟨x, H1, I1, r, d, u, ex, hd, mu, k⟩ => by
    obtain ⟨od, I2⟩ := I1.lock hd mu
    exact ⟨x, _, I2, r, k od⟩⟩
end LF
namespace KF
open PySem PySem.Spec PyProof.Rows L2 LF
open Evl (Ev EvL EvU EvT EvA Ex sq_of st_of)
section
variable {K : PySem.W.Frag} {σ : L2.St} {H H' : Hp} {te td : TE} {dk : List Str} {j : Nat}
/-- all([.. for k in d]), d a new set of texts -/
theorem ev_allS (h : EvS td σ H dk) (hz : dk.length ≤ 1000) (g : Str → Bool) (he : ∀ z ∈ dk, ∀ H1, Ex H H1 → Ev te ((wipe σ [j]).set j (some (.str z))) H1 (.bl (g z))) :
    Ev (tCB (rAll K) (tCons (tLc (iKeys (tFz td)) (gName j) tYes te [j]) tNil)) σ H (.bl (dk.all g)) := fun H1 e Q q =>
  h H1 e _ fun d H2 hd e2 h2 => by
    refine ⟨d, .dK (kvT dk), rfl, h2, trivial, fun od => ⟨d, od, rfl, Or.inl ⟨kvT dk, upd_same, fun Dl hD => ?_⟩⟩⟩
    have e3 : Ex H1 (upd H2 d (.frz od (.dK (kvT dk)))) := Ex.mut e2 hd
    have h3 : (upd H2 d (.frz od (.dK (kvT dk)))) d = some (.frz od (.dK (kvT dk))) := upd_same
    generalize (upd H2 d (.frz od (.dK (kvT dk)))) = H3 at e3 h3 hD
    refine lc_it walk_keys (fun n Hb => Ex H3 Hb ∧ Hb Dl = some (.lst ((dk.take n).map fun z => V.bl (g z)))) ⟨Ex.new hD, by rw [upd_same]; rfl⟩ (fun n Hb _ p => p.1 _ _ h3) ?_ ?_
    · rintro n x Hc Hb hn ⟨e4, hl⟩ ⟨rfl, k, v, hk, rfl⟩
      refine ⟨wipe_set, ?_⟩
      obtain ⟨z, hz2, rfl⟩ : ∃ z, dk[n]? = some z ∧ k = .inr z := by
        unfold kvT at hk
        rw [List.getElem?_map] at hk
        cases hp : dk[n]? with
        | none => rw [hp] at hk; cases hk
        | some pp => rw [hp] at hk; cases hk; exact ⟨pp, rfl, rfl⟩
      refine he z (List.mem_of_getElem? hz2) Hb ((e.trans e3).trans e4) Hb (Ex.refl Hb) _ fun H5 e5 => ⟨_, e5 _ _ hl, Evl.sz_lt (by rw [List.length_map, List.length_take]; omega), Ex.mut (e4.trans e5) hD, ?_⟩
      rw [upd_same, List.take_add_one, hz2, List.map_append]; rfl
    · rintro Hb ⟨e4, hl⟩
      rw [kvT_len, List.take_length] at hl
      refine ⟨Dl, dk.map g, rfl, sq_of (by rw [hl, List.map_map]; rfl), ?_⟩
      have : (dk.map g).all id = dk.all g := by rw [List.all_map]; rfl
      rw [this]
      exact q _ (e3.trans e4)
end
/-! a dict that is passed as a table -/
def TabA (H : Hp) (a : Addr) (tb : List (Key × PyData)) : Prop := ∃ kvs : List (Key × V), H a = some (.dK kvs) ∧ PySem.W.EachIs (fun kv p => kv.1 = p.1 ∧ Dq H kv.2 p.2) kvs tb
theorem each_dq {H H' : Hp} (s : Ex H H') : ∀ {kvs : List (Key × V)} {tb : List (Key × PyData)}, PySem.W.EachIs (fun kv p => kv.1 = p.1 ∧ Dq H kv.2 p.2) kvs tb → PySem.W.EachIs (fun kv p => kv.1 = p.1 ∧ Dq H' kv.2 p.2) kvs tb
  | _, _, .nil => .nil
  | _, _, .cons h t => .cons ⟨h.1, Dq.same s _ _ h.2⟩ (each_dq s t)
theorem TabA.ex {H H' : Hp} {a : Addr} {tb : List (Key × PyData)} (h : TabA H a tb) (s : Ex H H') : TabA H' a tb := by
  obtain ⟨kvs, h1, h2⟩ := h
  exact ⟨kvs, s _ _ h1, each_dq s h2⟩
def isInr : Key → Bool | .inr _ => true | _ => false
def keyS : Key → Str | .inr z => z | _ => ""
def tkeys (tb : List (Key × PyData)) : List Str := tb.map fun p => keyS p.1
def getT (tb : List (Key × PyData)) (t : Str) : PyData := ((tb.find? fun p => decide (p.1 = .inr t)).map (·.2)).getD .none
theorem each_keys {H : Hp} : ∀ {kvs : List (Key × V)} {tb : List (Key × PyData)}, PySem.W.EachIs (fun kv p => kv.1 = p.1 ∧ Dq H kv.2 p.2) kvs tb → kvs.map (·.1) = tb.map (·.1)
  | _, _, .nil => rfl
  | _, _, .cons h t => by rw [List.map_cons, List.map_cons, h.1, each_keys t]
theorem keys_inr : ∀ {tb : List (Key × PyData)}, (tb.map (·.1)).all isInr = true → tb.map (·.1) = (tkeys tb).map Sum.inr
  | [], _ => rfl
  | (.inr z, d) :: tb, h => by
    rw [List.map_cons, List.all_cons, Bool.and_eq_true] at h
    show Sum.inr z :: tb.map (·.1) = Sum.inr z :: (tkeys tb).map Sum.inr
    rw [keys_inr h.2]
  | (.inl i, d) :: tb, h => by cases h
theorem tab_get {H : Hp} {t : Str} : ∀ {kvs : List (Key × V)} {tb : List (Key × PyData)}, PySem.W.EachIs (fun kv p => kv.1 = p.1 ∧ Dq H kv.2 p.2) kvs tb → (Sum.inr t : Key) ∈ tb.map (·.1) → ∃ v, valV kvs (.inr t) = some v ∧ Dq H v (getT tb t)
  | _, _, .nil, h => by cases h
  | kv :: kvs, p :: tb, .cons h0 h1, h => by
    unfold valV getT
    rw [List.find?_cons, List.find?_cons, h0.1]
    by_cases he : p.1 = .inr t
    · rw [decide_eq_true he]
      exact ⟨kv.2, rfl, h0.2⟩
    · rw [decide_eq_false he]
      exact tab_get h1 ((List.mem_cons.mp h).resolve_left fun e => he e.symm)
theorem getT_mem {tb : List (Key × PyData)} {t : Str} (h : (Sum.inr t : Key) ∈ tb.map (·.1)) : ∃ p ∈ tb, p.2 = getT tb t := by
  unfold getT
  obtain ⟨p, hp, he⟩ := List.mem_map.mp h
  cases hf : tb.find? fun p => decide (p.1 = (Sum.inr t : Key)) with
  | none =>
    rw [List.find?_eq_none] at hf
    exact absurd (decide_eq_true he) (hf p hp)
  | some q => exact ⟨q, List.mem_of_find?_eq_some hf, rfl⟩
end KF

set_option Elab.async false
set_option linter.all false
set_option maxRecDepth 100000
set_option maxHeartbeats 16000000
namespace KF
open PySem PySem.Spec PyProof.Rows L2 LF
open Evl (Ev EvL EvU EvT EvA Ex sq_of st_of)
/-- a new dict of sets of texts -/
def EvR (te : TE) (σ : L2.St) (H : Hp) (rows : List (Str × List Str)) : Prop := ∀ H1, Ex H H1 → ∀ Q : VK, (∀ p H2 en, H1 p = none → Ex H1 H2 → EndA H2 p en → bareE en = rows → Q (.ref p) H2) → te σ H1 Q
def rSD : List V → Hp → VK → Prop := fun xs H Q => ∃ (a : Addr) (kvs : List (Key × V)) (ks : List Str), xs = [.ref a] ∧ Rd H a (.dK kvs) ∧ kvs.map (·.1) = ks.map Sum.inr ∧ ks.length < 64 ∧ ∀ ys p, ys.Perm ks → sortedS ys = true → H p = none → Q (.ref p) (upd H p (.lst (ys.map V.str)))
section
variable {K : PySem.W.Frag} {σ : L2.St} {H H' : Hp} {te tl tv ta tb : TE} {a b : Addr} {j : Nat}
theorem er_dc {ts : List Str} (f : Str → List Str) (h : Ev tl σ H (.ref a)) (hx : H a = some (.lst (ts.map V.str))) (nd : ts.Nodup) (hz : ts.length ≤ 1000) (hj : ∀ x : V, ((wipe σ [j]).set j (some x))[j]? = some (some x))
    (hv : ∀ t ∈ ts, ∀ H1, Ex H H1 → EvS tv ((wipe σ [j]).set j (some (.str t))) H1 (f t)) : EvR (tDc (iList K tl) (gName j) tYes (tVar j) tv [j]) σ H (ts.map fun t => (t, f t)) := fun H0 e Q q =>
  h H0 e _ fun H1 e1 => ⟨a, rfl, ⟨_, sq_of ((e.trans e1) _ _ hx)⟩, fun D hD =>
  dc_it (walk_list (xs := ts.map V.str)) (fun i Hb => Ex H1 Hb ∧ ∃ en : List ER, bareE en = (ts.take i).map (fun t => (t, f t)) ∧ Hb D = some (.dK (ekv en)) ∧ ∀ x ∈ en, Hb x.2.1 = some (.dK (kvT x.2.2)) ∧ x.2.1 ≠ D)
    ⟨Ex.new hD, [], rfl, upd_same, fun _ h => (nomatch h)⟩ (fun i Hb _ p => sq_of (p.1 _ _ ((e.trans e1) _ _ hx)))
    (fun i x Hb Hc hi ⟨e3, en, hb, h3, hl⟩ y => by
      obtain ⟨rfl, hx3⟩ := y
      rw [List.getElem?_map] at hx3
      cases hz2 : ts[i]? with
      | none => rw [hz2] at hx3; cases hx3
      | some t =>
        rw [hz2] at hx3
        cases (show some (V.str t) = some x from hx3)
        have hkeys : en.map (·.1) = ts.take i := by rw [← bareE_keys, hb, List.map_map]; exact List.map_id _
        have hni : t ∉ en.map (·.1) := fun hm => by
          rw [hkeys] at hm
          have hn2 : (ts.take (i + 1)).Nodup := nd.sublist (List.take_sublist _ _)
          rw [List.take_add_one, hz2, List.nodup_append] at hn2
          exact hn2.2.2 t hm t (by simp) rfl
        have henl : en.length ≤ 1000 := by
          have := congrArg List.length hkeys
          rw [List.length_map, List.length_take] at this; omega
        refine ⟨wipe_set, tyes_if ⟨_, hj _, hv t (List.mem_of_getElem? hz2) Hc ((e.trans e1).trans e3) Hc (Ex.refl Hc) _ fun p H5 hp e5 h5 => ⟨ekv en, .inr t, rfl, e5 _ _ h3, by unfold ekv; rw [List.length_map]; exact Evl.sz_lt (by omega), Ex.mut (e3.trans e5) hD, en ++ [(t, p, f t)], ?_, ?_, fun x hx => ?_⟩⟩⟩
        · unfold bareE at hb ⊢
          rw [List.map_append, hb, List.take_add_one, hz2, List.map_append]; rfl
        · rw [upd_same, putK_new _ (val_ekv_no hni)]
          unfold ekv
          rw [List.map_append]; rfl
        · rcases List.mem_append.mp hx with hx | hx
          · obtain ⟨g1, g2⟩ := hl x hx
            exact ⟨by rw [upd_ne g2]; exact e5 _ _ g1, g2⟩
          · obtain rfl := List.mem_singleton.mp hx
            have npD : p ≠ D := fun z => by rw [z, h3] at hp; cases hp
            exact ⟨by rw [upd_ne npD]; exact h5, npD⟩)
    fun Hb ⟨e3, en, hb, h3, hl⟩ => q D Hb en (Evl.fresh_back e1 hD) (e1.trans e3) ⟨h3, fun x hx => (hl x hx).1⟩ (by rw [List.length_map, List.take_length] at hb; exact hb)⟩
/-- sorted(d) != sorted(list) -/
theorem et_sorted {kvs : List (Key × V)} {ks ts : List Str} (h1 : Ev ta σ H (.ref a)) (h2 : Ev tb σ H (.ref b)) (ha : H a = some (.dK kvs)) (hb : H b = some (.lst (ts.map V.str))) (hks : kvs.map (·.1) = ks.map Sum.inr) (l1 : ks.length < 64) (l2 : ts.length < 64)
    (o1 : ∀ z ∈ ks, PyData.strOk z = true) (o2 : ∀ z ∈ ts, PyData.strOk z = true) : EvT (tTest (tOp (rNeD K) (tCB rSD (tCons ta tNil)) (tCB (rSortedS K) (tCons tb tNil)))) σ H (!ks.isPerm ts) := fun H1 e Q q =>
  h1 H1 e _ fun H2 e2 => ⟨a, kvs, ks, rfl, Or.inl ((e.trans e2) _ _ ha), hks, l1, fun ys p hp1 hs1 hp => by
    have e3 : Ex H2 (upd H2 p (.lst (ys.map V.str))) := Ex.new hp
    have hpp : (upd H2 p (.lst (ys.map V.str))) p = some (.lst (ys.map V.str)) := upd_same
    generalize (upd H2 p (.lst (ys.map V.str))) = H3 at e3 hpp
    refine h2 H3 ((e.trans e2).trans e3) _ fun H4 e4 => ⟨b, ts, rfl, sq_of ((((e.trans e2).trans e3).trans e4) _ _ hb), l2, fun zs r hp2 hs2 hr => ?_⟩
    have e5 : Ex H4 (upd H4 r (.lst (zs.map V.str))) := Ex.new hr
    have hrr : (upd H4 r (.lst (zs.map V.str))) r = some (.lst (zs.map V.str)) := upd_same
    generalize (upd H4 r (.lst (zs.map V.str))) = H5 at e5 hrr
    have key : decide (ys = zs) = ks.isPerm ts := by
      cases hh : ks.isPerm ts with
      | true =>
        have := List.isPerm_iff.mp hh
        exact decide_eq_true (sorted_one hs1 hs2 (hp1.trans (this.trans hp2.symm)))
      | false =>
        refine decide_eq_false fun e => ?_
        subst e
        rw [List.isPerm_iff.mpr (hp1.symm.trans hp2)] at hh
        cases hh
    refine rv_neLL (K := K) ((e4.trans e5) _ _ hpp) hrr (fun z hz => o1 z (hp1.mem_iff.mp hz)) (fun z hz => o2 z (hp2.mem_iff.mp hz)) H5 (Ex.refl H5) _ fun H6 e6 => ⟨_, rfl, ?_⟩
    rw [key]
    exact q H6 ((((e2.trans e3).trans e4).trans e5).trans e6)⟩
end
theorem kit_dct' {K : PySem.W.Frag} : ∀ d : PyData, (∀ kvs, d ≠ .dict kvs) → PySem.W.kitOne K (.type (tyN d)) (.type "dict") = some false
  | .none, _ => (kit_ty (by decide +kernel) : PySem.W.kitOne K (.type "NoneType") (.type "dict") = some false)
  | .bool _, _ => (kit_ty (by decide +kernel) : PySem.W.kitOne K (.type "bool") (.type "dict") = some false)
  | .int _, _ => (kit_ty (by decide +kernel) : PySem.W.kitOne K (.type "int") (.type "dict") = some false)
  | .str _, _ => (kit_ty (by decide +kernel) : PySem.W.kitOne K (.type "str") (.type "dict") = some false)
  | .list _, _ => (kit_ty (by decide +kernel) : PySem.W.kitOne K (.type "list") (.type "dict") = some false)
  | .tuple _, _ => (kit_ty (by decide +kernel) : PySem.W.kitOne K (.type "tuple") (.type "dict") = some false)
  | .dict kvs, h => absurd rfl (h kvs)
theorem Dq.nodict {H : Hp} {v : V} {d : PyData} (h : Dq H v d) : ∀ kvs, d ≠ .dict kvs := fun kvs e => by subst e; cases h
structure FarmX (fs : List (Str × List (Str × V))) : Prop where
  ok : FarmOk fs
  it : ItO (itemsE fs)
  kz : ∀ r ∈ itemsE fs, r.1.length ≤ 1000
  rz : ∀ t ∈ refsI (itemsE fs), PyData.strOk t = true ∧ t.length ≤ 1000
  rn : (refsI (itemsE fs)).length ≤ 60
structure TabOk (tb : List (Key × PyData)) : Prop where
  n : tb.length ≤ 15
  l : ∀ p ∈ tb, (items p.2).length ≤ 16
  o : ∀ p ∈ tb, PyData.strOk (keyS p.1) = true
def rowsS (ts : List Str) (tb : List (Key × PyData)) : List (Str × List Str) := ts.map fun t => (t, fnd ((items (getT tb t)).map txt))
def absentS (its : List (Str × List V)) (z : Str) (tb : List (Key × PyData)) : Bool :=
  (tb.map (·.1)).all isInr && ((tkeys tb).isPerm (targetsE its) && (targetsE its).all fun t => placesD (getT tb t)) &&
  ((targetsE its).all (fun t => (readS its (rowsS (targetsE its) tb) t).all fun p => decide (p ∈ getE (rowsS (targetsE its) tb) t)) && (readS its (rowsS (targetsE its) tb) z).all (emptyS its))
/-- what is passed as a table: data, or a dict -/
def TbV (H : Hp) (v : V) (its : List (Str × List V)) (z : Str) (res : Bool) : Prop := (∃ d, Dq H v d ∧ res = false) ∨ ∃ a tb, v = .ref a ∧ TabA H a tb ∧ TabOk tb ∧ res = absentS its z tb
def spAbsent (C : Addr) : Sp := fun vs H Q _ => ∃ (pk : Addr) (fs : List (Str × List (Str × V))) (z : Str) (v : V) (res : Bool), vs = [.ref pk, .str z, v] ∧ FarmA C H pk fs ∧ FarmX fs ∧ z.length ≤ 1000 ∧ TbV H v (itemsE fs) z res ∧ ∀ H', Ex H H' → Q (.bl res) H'
abbrev s_holds_absent : Stmt := topS 30
abbrev N_holds_absent : List Str := ["packages", "path", "table", "items", "targets", "key", "target", "rows", "place"]
theorem sc_holds_absent : FnScope ["packages", "path", "table", "items", "targets", "key", "target", "rows", "place"] ["packages", "path", "table"] (defScope s_holds_absent) := ⟨rfl, rfl, rfl, by decide +kernel, rfl, by decide +kernel, by decide +kernel⟩
end KF

set_option Elab.async false
set_option linter.all false
set_option maxRecDepth 100000
set_option maxHeartbeats 16000000
namespace KF
open PySem PySem.Spec PyProof.Rows L2 LF
open Evl (Ev EvL EvU EvT EvA Ex sq_of st_of)
def blkAb : Scope := { kind := .function, names := [(".0", .local), ("target", .local), ("table", .cell)], isGenerator := false, isCoroutine := false }
theorem ev_isiK {K : PySem.W.Frag} {te : TE} {σ : L2.St} {H : Hp} {k : Key} (h : Ev te σ H (kV k)) : Ev (tCB (rIsi K) (tCons te (tCons (tC (.ty "str")) tNil))) σ H (.bl (isInr k)) := by
  refine Evl.ev_cb (vs := [kV k, .ty "str"]) (Evl.ea_cons h (Evl.ea_cons Evl.ev_c Evl.ea_nil)) fun H1 e Q q => ?_
  cases k with
  | inl i => exact ⟨_, .ty "str", _, _, _, rfl, .ty "str", .base (.int i), kit_no (t := "int") (by simp [notStr]), q H1 (Ex.refl H1)⟩
  | inr z => exact ⟨_, .ty "str", _, _, _, rfl, .ty "str", .base (.str z), kit_str, q H1 (Ex.refl H1)⟩
theorem q_asgR {te : TE} {σ : L2.St} {H : Hp} {rows : List (Str × List Str)} {i : Nat} {tz : TS} {D : Ends} (h : EvR te σ H rows) (k : ∀ p H1 en, H p = none → Ex H H1 → EndA H1 p en → bareE en = rows → tz D (σ.set i (some (.ref p))) H1) : tSeq (tAsg te (gName i)) tz D σ H := h H (Ex.refl H) _ k
theorem fold_in {l dk : List Str} {x : Str} (h : x ∈ l.foldl addT dk) : x ∈ dk ∨ x ∈ l := mem_fold.mp h
theorem fnd_len (l : List Str) : (fnd l).length ≤ l.length := by
  have := fold_len l []
  unfold fnd; simpa using this
section
variable {P : Program} {w : World} {K : PySem.W.Frag} {mg : Str → Option Value} {base : Heap} {tk1 tk2 : Tok}
theorem ok_absent {f f1 f2 f3 f4 f5 C : Addr} {fd fd1 fd2 fd3 fd4 fd5 : FuncData} (F : Fun K "holds_absent" "holds_absent" s_holds_absent f fd) (T : Txt K mg tk1 tk2) (n_dict : mg "dict" = none) (d_ib : DefAt P w K mg base "items_by_place" 1 f1 fd1 ["packages"] (spItems C))
    (d_to : DefAt P w K mg base "targets_of" 6 f2 fd2 ["items"] spTargets) (d_ip : DefAt P w K mg base "is_list_of_places" 6 f3 fd3 ["thing"] (spD placesD)) (d_rb : DefAt P w K mg base "read_by" 2 f4 fd4 ["items", "rows", "path"] spRead)
    (d_ep : DefAt P w K mg base "is_empty_place" 1 f5 fd5 ["items", "place"] spEmptyP) : FnOk P w K mg base CX0 7 f fd ["packages", "path", "table"] (spAbsent C) := by
  refine F.ok sc_holds_absent (fun vs H Q E h => ?_) (fun cdv A outer s H vs Q E hr h => ?_)
  · obtain ⟨pk, fs, z, v, res, rfl, _⟩ := h
    rfl
  have hu := hr.units
  have hu1 := hu_of hr
  refine ⟨_, (pss_cons (ps_set (i := 3) sc_holds_absent.nd rfl (Or.inr rfl) (pe_callD d_ib (hr.mono (by decide)) (pa_cons (pv 0) pa_nil)))
    (pss_cons (ps_set (i := 4) sc_holds_absent.nd rfl (Or.inl rfl) (pe_callD d_to (hr.mono (by decide)) (pa_cons (pv 3) pa_nil)))
    (pss_cons (ps_if (PW.pt (pw_or (pt_not (pt_val (pe_callB call_isi (by rfl) T.n_isinstance (by decide +kernel) (pa_cons (pv 2) (pa_cons (pe_bltn (v := .ty "dict") (by rfl) n_dict (by decide +kernel) rfl) pa_nil))))) (pw_or1 (pt_not (pt_val (pe_callB (cr_all rfl) (by rfl) T.n_all (by decide +kernel) (pa_cons (pe_lock (pe_lc (own := [("key", 5)]) rfl sc_holds_absent.nd (pi_keys (pv 2)) (blkOk_by (N := N_holds_absent) (sc := defScope s_holds_absent) (by decide +kernel)) (fun _ _ _ _ _ => pg_name (i := 5) sc_holds_absent.nd rfl (Or.inl rfl)) (fun _ _ _ _ _ => pts_nil) (fun _ _ _ _ _ => (pe_callB (show CallR _ (.builtin "isinstance") (rIsi K) from call_isi) (by rfl) T.n_isinstance (by decide +kernel) (pa_cons (pv 5) (pa_cons (pe_bltn (v := .ty "str") (by rfl) T.n_str (by decide +kernel) rfl) pa_nil)))))) pa_nil))))))) (pss_one (ps_ret pe_bl)) pss_nil)
    (pss_cons (ps_if (PW.pt (pw_or (pt_cmpR (op_neD hu) (pe_callB (show CallR _ (.builtin "sorted") rSD from call_sortedD rfl) (by rfl) T.n_sorted (by decide +kernel) (pa_cons (pv 2) pa_nil)) (pe_callB (show CallR _ (.builtin "sorted") (rSortedS K) from cr_sortedS) (by rfl) T.n_sorted (by decide +kernel) (pa_cons (pv 4) pa_nil)) (nomark _)) (pw_or1 (pt_not (pt_val (pe_callB (cr_all rfl) (by rfl) T.n_all (by decide +kernel) (pa_cons (pe_lc (own := [("target", 6)]) rfl sc_holds_absent.nd (pi_list (pv 4)) (blkOk_by (N := N_holds_absent) (sc := defScope s_holds_absent) (by decide +kernel)) (fun _ _ _ _ _ => pg_name (i := 6) sc_holds_absent.nd rfl (Or.inl rfl)) (fun _ _ _ _ _ => pts_nil) (fun _ _ _ _ _ => (pe_callD d_ip (hr.mono (by decide)) (pa_cons (pe_dget hu1 (pv 2) (pv 6) (fun _ _ => rfl)) pa_nil)))) pa_nil))))))) (pss_one (ps_ret pe_bl)) pss_nil)
    (pss_cons (ps_set (i := 7) sc_holds_absent.nd rfl (Or.inr rfl) (pe_dc (own := [("target", 6)]) rfl sc_holds_absent.nd (pi_list (pv 4)) (blkOk_by (N := N_holds_absent) (sc := defScope s_holds_absent) (by decide +kernel)) (fun _ _ _ _ _ => pg_name (i := 6) sc_holds_absent.nd rfl (Or.inl rfl)) (fun _ _ _ _ _ => pts_nil) (fun _ _ _ _ _ => (pv 6)) (fun _ _ _ _ _ => (pe_dc (own := [("place", 8)]) rfl sc_holds_absent.nd (show PI _ _ _ (iTup K _) from pi_tup (pe_dget hu1 (pv 2) (pv 6) (fun _ _ => rfl))) (blkOk_by (N := N_holds_absent) (sc := blkAb) (by decide +kernel)) (fun _ _ _ _ _ => pg_name (i := 8) sc_holds_absent.nd rfl (Or.inl rfl)) (fun _ _ _ _ _ => pts_nil) (fun _ _ _ _ _ => (pv 8)) (fun _ _ _ _ _ => pe_bl)))))
    (pss_cons (ps_for PassesOwn.never rfl (pi_list (pv 4)) (pg_name (i := 6) sc_holds_absent.nd rfl (Or.inr rfl)) (pss_one (ps_if (pt_not (pt_val (pe_callB (cr_all rfl) (by rfl) T.n_all (by decide +kernel) (pa_cons (pe_lc (own := [("place", 8)]) rfl sc_holds_absent.nd (pi_keys (pe_frz (pe_callD d_rb (hr.mono (by decide)) (pa_cons (pv 3) (pa_cons (pv 7) (pa_cons (pv 6) pa_nil)))))) (blkOk_by (N := N_holds_absent) (sc := defScope s_holds_absent) (by decide +kernel)) (fun _ _ _ _ _ => pg_name (i := 8) sc_holds_absent.nd rfl (Or.inl rfl)) (fun _ _ _ _ _ => pts_nil) (fun _ _ _ _ _ => (pe_cmp (pc_din hu1 (pv 8) (pe_dget hu1 (pv 7) (pv 6) (fun _ _ => rfl)))))) pa_nil)))) (pss_one (ps_ret pe_bl)) pss_nil)))
    (pss_one (ps_ret (pe_callB (cr_all rfl) (by rfl) T.n_all (by decide +kernel) (pa_cons (pe_lc (own := [("place", 8)]) rfl sc_holds_absent.nd (pi_keys (pe_frz (pe_callD d_rb (hr.mono (by decide)) (pa_cons (pv 3) (pa_cons (pv 7) (pa_cons (pv 1) pa_nil)))))) (blkOk_by (N := N_holds_absent) (sc := defScope s_holds_absent) (by decide +kernel)) (fun _ _ _ _ _ => pg_name (i := 8) sc_holds_absent.nd rfl (Or.inl rfl)) (fun _ _ _ _ _ => pts_nil) (fun _ _ _ _ _ => (pe_callD d_ep (hr.mono (by decide)) (pa_cons (pv 3) (pa_cons (pv 8) pa_nil))))) pa_nil)))))))))), ?_⟩
  obtain ⟨pk, fs, z, v, res, rfl, hfm, fx, hz, htb, hq⟩ := h
  refine ⟨_, rfl, pk, fs, rfl, hfm, fx.ok, fun H1 q rs e1 hq0 hits hbr => ?_⟩
  have hO : ItO (bareI rs) := by rw [hbr]; exact fx.it
  refine ⟨_, rfl, q, rs, rfl, hits, hO, fun H2 tl e2 htl0 htl => ?_⟩
  rw [hbr] at htl
  have hits2 := hits.ex e2
  have e12 : Ex H H2 := Ex.trans e1 e2
  have hqa : ∀ H', Ex H2 H' → Q (.bl res) H' := fun H' e => hq H' (e12.trans e)
  rcases htb with ⟨d, hd, rfl⟩ | ⟨a, tb, rfl, hta, tok, rfl⟩
  · refine Evl.q_when (b := true) (Evl.et_is (Evl.et_or (a := true) (b := true) (Evl.et_not (a := false) (Evl.et_B (ev_isi (K := K) (d := d) (evd_var (i := 2) rfl (Dq.same e12 _ _ hd)) (kit_dct' d (Dq.nodict hd))))) (fun h => nomatch h)) rfl) (fun _ H3 e3 => Evl.s_ret Evl.ev_c fun H4 e4 => hqa H4 (e3.trans e4)) (fun h => nomatch h)
  have hta2 := hta.ex e12
  obtain ⟨kvs, hka, hea⟩ := id hta2
  have hkeys := each_keys hea
  have hkl : kvs.length ≤ 15 := by have := hea.length; have := tok.n; omega
  have isd : Ev (tCB (rIsi K) (tCons (tVar 2) (tCons (tC (.ty "dict")) tNil))) [some (.ref pk), some (.str z), some (.ref a), some (.ref q), some (.ref tl), none, none, none, none] H2 (.bl true) := by
    refine Evl.ev_cb (vs := [.ref a, .ty "dict"]) (Evl.ea_cons (Evl.ev_var (i := 2) rfl) (Evl.ea_cons Evl.ev_c Evl.ea_nil)) fun H3 e Q q => ?_
    exact ⟨_, .ty "dict", _, _, _, rfl, .ty "dict", .base (.dK (e _ _ hka)), kit_ty (by decide +kernel), q H3 (Ex.refl H3)⟩
  unfold absentS at hqa
  have c1 : EvT _ [some (.ref pk), some (.str z), some (.ref a), some (.ref q), some (.ref tl), none, none, none, none] H2 (!true || !(kvs.map (·.1)).all isInr) := Evl.et_or (Evl.et_not (Evl.et_B isd)) fun _ =>
    Evl.et_not (Evl.et_B (ev_lockAll (K := K) (j := 5) (te := tCB (rIsi K) (tCons (tVar 5) (tCons (tC (.ty "str")) tNil))) (tVar 2) (Evl.ev_var (i := 2) rfl) (fun od H3 e3 => Evl.ev_var (i := 2) rfl) hka (by omega) isInr fun k hk od H3 e3 => ev_isiK (Evl.ev_var (i := 5) rfl)))
  refine Evl.q_when c1 (fun h1 H3 e3 => Evl.s_ret Evl.ev_c fun H4 e4 => ?_) (fun h1 H3 e3 => ?_)
  · have := hqa H4 (e3.trans e4)
    rw [← hkeys] at this
    have e0 : (kvs.map (·.1)).all isInr = false := by simpa using h1
    rw [e0] at this
    exact this
  have hall : (kvs.map (·.1)).all isInr = true := by simpa using h1
  have hall2 : (tb.map (·.1)).all isInr = true := by rw [← hkeys]; exact hall
  have hkinr := keys_inr hall2
  rw [hall2, Bool.true_and] at hqa
  have htn : (tkeys tb).length ≤ 15 := by unfold tkeys; rw [List.length_map]; exact tok.n
  generalize hTS : targetsE (itemsE fs) = ts at htl hqa
  have hts1 : ∀ t ∈ ts, t ∈ refsI (itemsE fs) := fun t ht => by
    rw [← hTS] at ht
    exact mem_fnd.mp (sortP_mem.mp ht)
  have hts2 : ∀ t ∈ refsI (itemsE fs), t ∈ ts := fun t ht => by
    rw [← hTS]
    exact sortP_mem.mpr (mem_fnd.mpr ht)
  have htsl : ts.length ≤ 60 := by
    rw [← hTS]
    unfold targetsE
    rw [List.length_mergeSort]
    exact Nat.le_trans (fnd_len _) fx.rn
  have htsn : ts.Nodup := by
    rw [← hTS]
    exact ((List.mergeSort_perm _ _).nodup_iff).mpr (fold_nd (l := refsI (itemsE fs)) .nil)
  have htl3 : ∀ {H'}, Ex H3 H' → H' tl = some (.lst (ts.map V.str)) := fun e => e _ _ (e3 _ _ htl)
  have hka3 := e3 _ _ hka
  have hks3 : kvs.map (·.1) = (tkeys tb).map Sum.inr := by rw [hkeys]; exact hkinr
  have c2a : EvT _ [some (.ref pk), some (.str z), some (.ref a), some (.ref q), some (.ref tl), none, none, none, none] H3 (!(tkeys tb).isPerm ts) :=
    et_sorted (K := K) (Evl.ev_var (i := 2) rfl) (Evl.ev_var (i := 4) rfl) hka3 (htl3 (Ex.refl _)) hks3 (by omega) (by omega) (fun z hz => by
      obtain ⟨p, hp, rfl⟩ := List.mem_map.mp hz
      exact tok.o p hp) fun t ht => (fx.rz t (hts1 t ht)).1
  have hget : (tkeys tb).isPerm ts = true → ∀ t ∈ ts, (Sum.inr t : Key) ∈ tb.map (·.1) := fun hp t ht => by
    rw [hkinr]
    exact List.mem_map.mpr ⟨t, (List.isPerm_iff.mp hp).mem_iff.mpr ht, rfl⟩
  let gp : V → Bool := fun x => match x with | .str t => placesD (getT tb t) | _ => false
  have c2 : EvT _ [some (.ref pk), some (.str z), some (.ref a), some (.ref q), some (.ref tl), none, none, none, none] H3 (!(tkeys tb).isPerm ts || !ts.all fun t => placesD (getT tb t)) := Evl.et_or c2a fun hp => by
    have hp' : (tkeys tb).isPerm ts = true := by simpa using hp
    refine Evl.et_not (Evl.et_B (Evl.ev_is (ev_allB (K := K) (bs := (ts.map V.str).map gp) (el_lcB (K := K) (j := 6) (te := tCall (spD placesD) [] E0 (tCons (tDGet (tVar 2) (tVar 6)) tNil)) (a := tl) gp (Evl.ev_var (i := 4) rfl) (htl3 (Ex.refl _)) (by rw [List.length_map]; omega) fun x H4 hx e4 => ?_)) (by rw [List.all_map, List.all_map]; rfl)))
    obtain ⟨t, ht, rfl⟩ := List.mem_map.mp hx
    obtain ⟨vv, hv1, hv2⟩ := tab_get hea (hget hp' t ht)
    have e34 := e3.trans e4
    exact ev_callB1 (g := placesD) (d := getT tb t) ⟨vv, ev_dgetK (k := .inr t) (Evl.ev_var (i := 2) rfl) (Evl.ev_var (i := 6) rfl) (e34 _ _ hka) hv1, Dq.same e34 _ _ hv2⟩
  refine Evl.q_when c2 (fun h2 H4 e4 => Evl.s_ret Evl.ev_c fun H5 e5 => ?_) (fun h2 H4 e4 => ?_)
  · have := hqa H5 ((e3.trans e4).trans e5)
    have e0 : ((tkeys tb).isPerm ts && ts.all fun t => placesD (getT tb t)) = false := by
      cases hp : (tkeys tb).isPerm ts with
      | false => rfl
      | true => rw [hp] at h2; rw [Bool.true_and]; simpa using h2
    rw [e0, Bool.false_and] at this
    exact this
  rw [Bool.or_eq_false_iff] at h2
  have hperm : (tkeys tb).isPerm ts = true := by simpa using h2.1
  have hpl : (ts.all fun t => placesD (getT tb t)) = true := by simpa using h2.2
  rw [hperm, hpl, Bool.true_and, Bool.true_and] at hqa
  have e24 := e3.trans e4
  have hka4 := e24 _ _ hka
  -- the rows
  have er : EvR _ [some (.ref pk), some (.str z), some (.ref a), some (.ref q), some (.ref tl), none, none, none, none] H4 (rowsS ts tb) :=
    er_dc (K := K) (j := 6) (a := tl) (ts := ts) (fun t => fnd ((items (getT tb t)).map txt)) (Evl.ev_var (i := 4) rfl) (htl3 e4) htsn (by omega) (fun _ => rfl) (tv := tDc (iTup K (tDGet (tVar 2) (tVar 6))) (gName 8) tYes (tVar 8) (tC (.bl true)) [8]) fun t ht H5 e5 => by
      have hpt := List.all_eq_true.mp hpl t ht
      unfold placesD at hpt
      rw [Bool.and_eq_true, Bool.and_eq_true] at hpt
      obtain ⟨vv, hv1, hv2⟩ := tab_get hea (hget hperm t ht)
      have e25 := e24.trans e5
      obtain ⟨b, xs, rfl, hb, hda, hz2, hl2⟩ := (Dq.same e25 _ _ hv2).tupE hpt.1.1
      obtain ⟨rfl, hstr⟩ := strs_of hda (path_strs hpt.1.2)
      rw [List.length_map] at hz2
      exact es_dcT (K := K) (a := b) (ev_dgetK (k := .inr t) (Evl.ev_var (i := 2) rfl) (Evl.ev_var (i := 6) rfl) (e25 _ _ hka) hv1) hb (by omega) (fun _ => rfl)
  refine q_asgR er fun r H5 en hr0 e5 hen hbe => ?_
  have hR : RowsOk (bareI rs) (bareE en) (ts.flatMap fun t => (items (getT tb t)).map txt) := by
    rw [hbr, hbe]
    have hk : (rowsS ts tb).map (·.1) = ts := by unfold rowsS; rw [List.map_map]; exact List.map_id _
    have hlen : ∀ t ∈ ts, (items (getT tb t)).length ≤ 16 := fun t ht => by
      obtain ⟨p, hp, he⟩ := getT_mem (hget hperm t ht)
      rw [← he]; exact tok.l p hp
    have htsl2 : ts.length ≤ 15 := by
      have := (List.isPerm_iff.mp hperm).length_eq
      omega
    refine ⟨by rw [hk]; exact htsn, fun t ht => by rw [hk]; exact hts2 t ht, fun p hp y hy => ?_, fun p hp => ?_, ?_, fun y hy => ?_, fx.kz⟩
    · obtain ⟨t, ht, rfl⟩ := List.mem_map.mp hp
      exact List.mem_flatMap.mpr ⟨t, ht, mem_fnd.mp hy⟩
    · obtain ⟨t, ht, rfl⟩ := List.mem_map.mp hp
      have := hlen t ht
      have h5 := fnd_len ((items (getT tb t)).map txt)
      rw [List.length_map] at h5
      show (fnd ((items (getT tb t)).map txt)).length ≤ 250
      omega
    · have gen : ∀ l : List Str, (∀ t ∈ l, (items (getT tb t)).length ≤ 16) → (l.flatMap fun t => (items (getT tb t)).map txt).length ≤ 16 * l.length := by
        intro l
        induction l with
        | nil => intro _; exact Nat.le_refl _
        | cons t l ih =>
          intro h
          rw [List.flatMap_cons, List.length_append, List.length_map, List.length_cons]
          have := h t List.mem_cons_self
          have := ih fun u hu => h u (List.mem_cons_of_mem _ hu)
          omega
      have := gen ts hlen
      omega
    · obtain ⟨t, ht, hy2⟩ := List.mem_flatMap.mp hy
      have hpt := List.all_eq_true.mp hpl t ht
      unfold placesD at hpt
      rw [Bool.and_eq_true, Bool.and_eq_true] at hpt
      obtain ⟨vv, hv1, hv2⟩ := tab_get hea (hget hperm t ht)
      obtain ⟨b, xs, rfl, hb, hda, hz2, hl2⟩ := hv2.tupE hpt.1.1
      exact ((strs_of hda (path_strs hpt.1.2)).2 y hy2).1
  have hndr : (en.map (·.1)).Nodup := by rw [← bareE_keys]; exact hR.nd
  have e25 := e24.trans e5
  have hits5 := hits2.ex e25
  have rlen : ∀ z, (readS (bareI rs) (bareE en) z).length ≤ 490 := fun z => by
    have gen : ∀ (l : List Str) (pl : List Str), Pls (bareI rs) (ts.flatMap fun t => (items (getT tb t)).map txt) pl → Pls (bareI rs) (ts.flatMap fun t => (items (getT tb t)).map txt) (l.foldl (stepN (bareI rs) (bareE en)) pl) := by
      intro l
      induction l with
      | nil => intro pl h; exact h
      | cons n l ih => intro pl h; exact ih _ (Or.inr (Good.places hR hO.nd Good.nil))
    exact ((gen (parts z) _ (Or.inl rfl)).facts hR hO.sz.k).1
  have rd : ∀ {ta tb' tc : TE} {σ : L2.St} {H6 : Hp} {z' : Str}, Ex H5 H6 → Ev ta σ H6 (.ref q) → Ev tb' σ H6 (.ref r) → Ev tc σ H6 (.str z') → z'.length ≤ 1000 → EvS (tCall spRead [] E0 (tCons ta (tCons tb' (tCons tc tNil)))) σ H6 (readS (bareI rs) (bareE en) z') := fun {ta tb' tc σ H6 z'} e6 h1 h2 h3 hz' => fun H7 e7 Q7 q7 =>
    (Evl.ea_cons h1 (Evl.ea_cons h2 (Evl.ea_cons h3 Evl.ea_nil))) H7 e7 _ fun H8 e8 => ⟨q, r, rs, en, _, z', rfl, hits5.ex ((e6.trans e7).trans e8), hO, hen.ex ((e6.trans e7).trans e8), hR, hz', fun H9 p e9 hp h9 => q7 p H9 (Evl.fresh_back e8 hp) (e8.trans e9) h9⟩
  refine Evl.q_forL (K := K) (a := tl) (xs := ts.map V.str) (Evl.ev_var (i := 4) rfl) (sq_of (htl3 (e4.trans e5))) (fun i σ H' => ∃ v6 : Option V, σ = [some (.ref pk), some (.str z), some (.ref a), some (.ref q), some (.ref tl), none, v6, some (.ref r), none] ∧ Ex H5 H' ∧ ((ts.take i).all fun t => (readS (bareI rs) (bareE en) t).all fun p => decide (p ∈ getE (bareE en) t)) = true)
    (fun H6 e6 => ⟨none, rfl, e6, rfl⟩) (fun i σ H' _ ⟨_, _, e6, _⟩ => sq_of (htl3 ((e4.trans e5).trans e6))) ?_ ?_
  · rintro i x σ H6 hx ⟨v6, rfl, e6, hdone⟩
    rw [List.getElem?_map] at hx
    cases hti : ts[i]? with
    | none => rw [hti] at hx; cases hx
    | some t =>
    rw [hti] at hx
    cases (show some (V.str t) = some x from hx)
    have htm := List.mem_of_getElem? hti
    have hmk : t ∈ en.map (·.1) := by
      rw [← bareE_keys]; exact hR.has t (by rw [hbr]; exact hts1 t htm)
    obtain ⟨w0, hw0, hwt⟩ := List.mem_map.mp hmk
    have hwg : getE (bareE en) t = w0.2.2 := by rw [← hwt]; exact getE_mem (r := (w0.1, w0.2.2)) hR.nd (List.mem_map.mpr ⟨w0, hw0, rfl⟩)
    have hen6 := hen.ex e6
    have ce : EvT _ [some (.ref pk), some (.str z), some (.ref a), some (.ref q), some (.ref tl), none, some (.str t), some (.ref r), none] H6 (!(readS (bareI rs) (bareE en) t).all fun p => decide (p ∈ getE (bareE en) t)) :=
      Evl.et_not (Evl.et_B (ev_allS (K := K) (j := 8) (rd e6 (Evl.ev_var (i := 3) rfl) (Evl.ev_var (i := 7) rfl) (Evl.ev_var (i := 6) rfl) (fx.rz t (hts1 t htm)).2) (by have := rlen t; omega) (fun p => decide (p ∈ getE (bareE en) t)) fun y hy H7 e7 =>
        Evl.ev_is (ev_dinK (q := w0.2.1) (k := .inr y) (kvs := kvT w0.2.2) (ev_dgetK (k := .inr t) (Evl.ev_var (i := 7) rfl) (Evl.ev_var (i := 6) rfl) (hen6.ex e7).d (by rw [← hwt]; exact val_ekv hndr hw0)) (Evl.ev_var (i := 8) rfl) ((hen6.ex e7).l w0 hw0)) (by
          rw [hwg]
          by_cases hh : y ∈ w0.2.2
          · rw [val_kvT_in hh, decide_eq_true hh]; rfl
          · rw [val_kvT_no hh, decide_eq_false hh]; rfl)))
    refine Evl.s_when ce (fun h3 H7 e7 => Evl.s_ret Evl.ev_c fun H8 e8 => ?_) (fun h3 H7 e7 => ⟨_, rfl, e6.trans e7, ?_⟩)
    · have := hqa H8 (((e25.trans e6).trans e7).trans e8)
      rw [← hbe, ← hbr] at this
      have e0 : (ts.all fun t => (readS (bareI rs) (bareE en) t).all fun p => decide (p ∈ getE (bareE en) t)) = false := by
        cases hh : ts.all fun t => (readS (bareI rs) (bareE en) t).all fun p => decide (p ∈ getE (bareE en) t) with
        | false => rfl
        | true =>
          have := List.all_eq_true.mp hh t htm
          rw [this] at h3; cases h3
      rw [e0, Bool.false_and] at this
      exact this
    · rw [List.take_add_one, hti, List.all_append, hdone, Bool.true_and]
      have : ((readS (bareI rs) (bareE en) t).all fun p => decide (p ∈ getE (bareE en) t)) = true := by simpa using h3
      simp only [Option.toList, List.all_cons, List.all_nil, Bool.and_true]
      exact this
  · rintro σ H6 ⟨v6, rfl, e6, hdone⟩
    rw [List.length_map, List.take_length] at hdone
    refine Evl.s_ret (ev_allS (K := K) (j := 8) (rd e6 (Evl.ev_var (i := 3) rfl) (Evl.ev_var (i := 7) rfl) (Evl.ev_var (i := 1) rfl) hz) (by have := rlen z; omega) (emptyS (bareI rs)) fun y hy H7 e7 => Evl.ev_call (vs := [.ref q, .str y]) (Evl.ea_cons (Evl.ev_var (i := 3) rfl) (Evl.ea_cons (Evl.ev_var (i := 8) rfl) Evl.ea_nil)) fun H8 e8 Q8 q8 E8 => ⟨q, rs, y, rfl, hits5.ex ((e6.trans e7).trans e8), hO, fun H9 e9 => q8 H9 e9⟩) fun H7 e7 => ?_
    have := hqa H7 ((e25.trans e6).trans e7)
    rw [← hbe, ← hbr, hdone, Bool.true_and] at this
    exact this
end
end KF

set_option Elab.async false
set_option linter.all false
set_option maxRecDepth 100000
set_option maxHeartbeats 16000000
namespace KF
open PySem PySem.Spec PyProof.Rows L2 LF
open Evl (Ev EvL EvU EvT EvA Ex sq_of st_of)
def lastD (d : PyData) : PyData := at' d ((items d).length - 1)
theorem evd_lastT {K : PySem.W.Frag} {te : TE} {σ : L2.St} {H : Hp} {d : PyData} (h : EvD te σ H d) (ht : isTup d = true) (hn : 0 < (items d).length) : EvD (tOp (rIxT K) te (tUn (rU fun i => .int (-i)) (tC (.int 1)))) σ H (lastD d) := by
  obtain ⟨x, h1, h2⟩ := h
  obtain ⟨a, xs, rfl, ha, hd, hz, hl⟩ := h2.tupE ht
  have hi : (items d).length - 1 < (items d).length := by omega
  obtain ⟨y, hy, hq⟩ := hd.get' ((items d).length - 1) (List.getElem?_eq_getElem hi)
  refine ⟨y, Evl.ev_op h1 (Evl.ev_un Evl.ev_c Evl.ru_neg) (Evl.rv_ixT (st_of ha) ?_), ?_⟩
  · unfold atI ixN
    rw [if_neg (by decide), if_pos (by omega)]
    show xs[((-1 : Int) + (xs.length : Int)).toNat]? = some y
    rw [show ((-1 : Int) + (xs.length : Int)).toNat = (items d).length - 1 by omega]
    exact hy
  · unfold lastD
    rw [at_of rfl hi]; exact hq
def addE (en : List (Str × List Str)) (k x : Str) : List (Str × List Str) := if k ∈ en.map (·.1) then en.map (fun r => if r.1 = k then (r.1, addT r.2 x) else r) else en ++ [(k, [x])]
def factOk (its : List (Str × List V)) (en : List (Str × List Str)) (p : PyData) : Bool := isPair p && pathD (at' p 0) && trailS its en (txt (at' p 0)) (at' p 1)
def factsS (its : List (Str × List V)) : List PyData → List (Str × List Str) → Option (List (Str × List Str))
  | [], en => some en
  | p :: r, en => if factOk its en p = true then factsS its r (addE en (txt (at' p 0)) (txt (lastD (at' p 1)))) else none
def findP {α : Type} (l : List (Str × α)) (z : Str) : Option α := (l.find? fun r => decide (r.1 = z)).map (·.2)
def nameS (fs : List (Str × List (Str × V))) (last : Str) (dn : PyData) : Bool := isStr dn && (match findP fs (txt dn) with
  | none => false
  | some es => match findP es last with
    | none => false
    | some v => !isRef v)
def shownS (fs : List (Str × List (Str × V))) (z : Str) (df dt dn : PyData) : Bool := isTup df && (match factsS (itemsE fs) (items df) [] with
  | none => false
  | some en => trailS (itemsE fs) en z dt && (if txt (lastD dt) = "" then isNon dn else nameS fs (txt (lastD dt)) dn))
def spShown (C : Addr) : Sp := fun vs H Q _ => ∃ (pk : Addr) (fs : List (Str × List (Str × V))) (z : Str) (vf vt vn : V) (df dt dn : PyData), vs = [.ref pk, .str z, vf, vt, vn] ∧ FarmA C H pk fs ∧ FarmX fs ∧ z.length ≤ 1000 ∧ Dq H vf df ∧ Dq H vt dt ∧ Dq H vn dn ∧
  ∀ H', Ex H H' → Q (.bl (shownS fs z df dt dn)) H'
abbrev s_holds_shown : Stmt := topS 27
abbrev N_holds_shown : List Str := ["packages", "path", "facts", "trail", "name", "items", "ends", "fact", "last", "item"]
theorem sc_holds_shown : FnScope ["packages", "path", "facts", "trail", "name", "items", "ends", "fact", "last", "item"] ["packages", "path", "facts", "trail", "name"] (defScope s_holds_shown) := ⟨rfl, rfl, rfl, by decide +kernel, rfl, by decide +kernel, by decide +kernel⟩
/-- the ends as they grow, beside a heap B -/
structure Grow (B H : Hp) (e : Addr) (en : List ER) (n : Nat) : Prop where
  ex : Ex B H
  a : EndA H e en
  be : B e = none
  k : (en.map (·.1)).Nodup
  ad : (en.map (·.2.1)).Nodup
  b : ∀ x ∈ en, B x.2.1 = none ∧ x.2.1 ≠ e ∧ x.2.2.length ≤ n
  l : en.length ≤ n
theorem Grow.up {B H H' : Hp} {e : Addr} {en : List ER} {n : Nat} (g : Grow B H e en n) (s : Ex H H') : Grow B H' e en n := ⟨g.ex.trans s, g.a.ex s, g.be, g.k, g.ad, g.b, g.l⟩
theorem trail_facts {its : List (Str × List V)} {en : List (Str × List Str)} {z : Str} {d : PyData} (h : trailS its en z d = true) : isTup d = true ∧ 0 < (items d).length ∧ (items d).all isStr = true := by
  unfold trailS at h
  rw [Bool.and_eq_true, Bool.and_eq_true, Bool.and_eq_true, Bool.and_eq_true] at h
  obtain ⟨⟨h1, h2⟩, ⟨h3, _⟩, _⟩ := h
  have := of_decide_eq_true h2
  exact ⟨h1, by omega, h3⟩
theorem last_str {d : PyData} (h1 : 0 < (items d).length) (h2 : (items d).all isStr = true) : isStr (lastD d) = true := by
  unfold lastD at'
  rw [List.getD_eq_getElem?_getD, List.getElem?_eq_getElem (by omega)]
  exact List.all_eq_true.mp h2 _ (List.getElem_mem _)
section
variable {K : PySem.W.Frag} {B : Hp} {σ : L2.St} {tk tx : TE}
/-- ends.setdefault(k, {})[x] = True -/
theorem s_put {H : Hp} {e : Addr} {en : List ER} {n i : Nat} {k x : Str} {D : Ends} (g : Grow B H e en n) (hn : n ≤ 1000) (hi : σ[i]? = some (some (.ref e))) (hk : Ev tk σ B (.str k)) (hx : Ev tx σ B (.str x))
    (fin : ∀ H' en', Grow B H' e en' (n + 1) → bareE en' = addE (bareE en) k x → D.nx σ H') : sDPut (tDSetd (tVar i) tk tDNewK) tx (tC (.bl true)) D σ H := by
  refine ⟨_, hi, e, rfl, Or.inl ⟨_, Or.inl g.a.d⟩, hk H g.ex _ fun H1 e1 p hp => ?_⟩
  have g1 := g.up e1
  have npe : e ≠ p := ne_of_none g1.a.d hp
  have e2 : Ex H1 (upd H1 p (.dK [])) := Ex.new hp
  have hpp : (upd H1 p (.dK [])) p = some (.dK []) := upd_same
  have hBp : B p = none := Evl.fresh_back g1.ex hp
  have nap : ∀ y ∈ en, y.2.1 ≠ p := fun y hy => ne_of_none (g1.a.l y hy) hp
  have g2 := g1.up e2
  generalize (upd H1 p (.dK [])) = H2 at e2 hpp g2
  refine ⟨ekv en, .inr k, g2.a.d, rfl, by unfold ekv; rw [List.length_map]; exact Evl.sz_lt (by have := g.l; omega), fun v hv => ?_, fun hno => ?_⟩
  · have hin : k ∈ en.map (·.1) := by
      by_cases h : k ∈ en.map (·.1)
      · exact h
      · rw [val_ekv_no h] at hv; cases hv
    obtain ⟨r, hr, rfl⟩ := List.mem_map.mp hin
    rw [val_ekv g.k hr] at hv
    cases hv
    obtain ⟨b1, b2, b3⟩ := g.b r hr
    refine hx H2 g2.ex _ fun H3 e3 => ?_
    have g3 := g2.up e3
    refine ⟨r.2.1, _, rfl, DPut.k (k := Sum.inr x) (g3.a.l r hr) (by rw [kvT_len]; exact Evl.sz_lt (by omega)), ?_⟩
    rw [put_kvT]
    have hmk : (en.map fun s => if s.1 = r.1 then (s.1, s.2.1, addT s.2.2 x) else s).map (·.1) = en.map (·.1) := by
      rw [List.map_map]; refine List.map_congr_left fun s _ => ?_
      show (if s.1 = r.1 then (s.1, s.2.1, addT s.2.2 x) else s).1 = s.1
      split <;> rfl
    have hma : (en.map fun s => if s.1 = r.1 then (s.1, s.2.1, addT s.2.2 x) else s).map (·.2.1) = en.map (·.2.1) := by
      rw [List.map_map]; refine List.map_congr_left fun s _ => ?_
      show (if s.1 = r.1 then (s.1, s.2.1, addT s.2.2 x) else s).2.1 = s.2.1
      split <;> rfl
    have hme : ekv (en.map fun s => if s.1 = r.1 then (s.1, s.2.1, addT s.2.2 x) else s) = ekv en := by
      unfold ekv
      rw [List.map_map]; refine List.map_congr_left fun s _ => ?_
      show (Sum.inr (if s.1 = r.1 then (s.1, s.2.1, addT s.2.2 x) else s).1, V.ref (if s.1 = r.1 then (s.1, s.2.1, addT s.2.2 x) else s).2.1) = _
      split <;> rfl
    refine fin _ (en.map fun s => if s.1 = r.1 then (s.1, s.2.1, addT s.2.2 x) else s) ⟨Ex.mut g3.ex b1, ⟨by rw [upd_ne b2.symm, hme]; exact g3.a.d, fun y hy => ?_⟩, g.be, by rw [hmk]; exact g.k, by rw [hma]; exact g.ad, fun y hy => ?_, by rw [List.length_map]; have := g.l; omega⟩ ?_
    · obtain ⟨s, hs, rfl⟩ := List.mem_map.mp hy
      by_cases hsr : s.1 = r.1
      · obtain rfl := nd_inj g.k hs hr hsr
        rw [if_pos rfl]
        exact upd_same
      · rw [if_neg hsr]
        have : s.2.1 ≠ r.2.1 := fun z => hsr (by rw [nd_inj g.ad hs hr z])
        rw [upd_ne this]
        exact g3.a.l s hs
    · obtain ⟨s, hs, rfl⟩ := List.mem_map.mp hy
      obtain ⟨c1, c2, c3⟩ := g.b s hs
      split
      · refine ⟨c1, c2, ?_⟩
        have := addT_len s.2.2 x
        show (addT s.2.2 x).length ≤ n + 1
        omega
      · exact ⟨c1, c2, by omega⟩
    · unfold addE
      rw [if_pos (by rw [bareE_keys]; exact hin)]
      unfold bareE
      rw [List.map_map, List.map_map]
      refine List.map_congr_left fun s _ => ?_
      show ((if s.1 = r.1 then (s.1, s.2.1, addT s.2.2 x) else s).1, (if s.1 = r.1 then (s.1, s.2.1, addT s.2.2 x) else s).2.2) = (if s.1 = r.1 then (s.1, addT s.2.2 x) else (s.1, s.2.2))
      split <;> rfl
  · have hni : k ∉ en.map (·.1) := fun h => by
      obtain ⟨r, hr, rfl⟩ := List.mem_map.mp h
      rw [val_ekv g.k hr] at hno; cases hno
    have e3 : Ex B (upd H2 e (.dK (putK (ekv en) (.inr k) (.ref p)))) := Ex.mut g2.ex g.be
    have hp3 : (upd H2 e (.dK (putK (ekv en) (.inr k) (.ref p)))) p = some (.dK []) := by rw [upd_ne npe.symm]; exact hpp
    have he3 : (upd H2 e (.dK (putK (ekv en) (.inr k) (.ref p)))) e = some (.dK (ekv (en ++ [(k, p, [x])]))) := by
      rw [upd_same, putK_new _ hno]
      unfold ekv
      rw [List.map_append]; rfl
    have hl3 : ∀ y ∈ en, (upd H2 e (.dK (putK (ekv en) (.inr k) (.ref p)))) y.2.1 = some (.dK (kvT y.2.2)) := fun y hy => by
      rw [upd_ne (g.b y hy).2.1]; exact g2.a.l y hy
    generalize (upd H2 e (.dK (putK (ekv en) (.inr k) (.ref p)))) = H3 at e3 hp3 he3 hl3
    refine hx H3 e3 _ fun H4 e4 => ⟨p, _, rfl, DPut.k (k := Sum.inr x) (kvs := kvT []) (e4 _ _ hp3) (by show 0 < sizeLine; decide), ?_⟩
    rw [put_kvT]
    refine fin _ (en ++ [(k, p, [x])]) ⟨Ex.mut (e3.trans e4) hBp, ⟨by rw [upd_ne npe]; exact e4 _ _ he3, fun y hy => ?_⟩, g.be, ?_, ?_, fun y hy => ?_, by rw [List.length_append]; have := g.l; simp; omega⟩ ?_
    · rcases List.mem_append.mp hy with hy | hy
      · rw [upd_ne (nap y hy)]; exact e4 _ _ (hl3 y hy)
      · obtain rfl := List.mem_singleton.mp hy
        exact upd_same
    · rw [List.map_append, List.nodup_append]
      refine ⟨g.k, by simp, fun a ha b hb => ?_⟩
      obtain rfl : b = k := List.mem_singleton.mp hb
      exact fun z => hni (z ▸ ha)
    · rw [List.map_append, List.nodup_append]
      refine ⟨g.ad, by simp, fun a ha b hb => ?_⟩
      obtain ⟨y, hy, rfl⟩ := List.mem_map.mp ha
      obtain rfl : b = p := List.mem_singleton.mp hb
      exact nap y hy
    · rcases List.mem_append.mp hy with hy | hy
      · obtain ⟨c1, c2, c3⟩ := g.b y hy
        exact ⟨c1, c2, by omega⟩
      · obtain rfl := List.mem_singleton.mp hy
        exact ⟨hBp, npe.symm, by show 1 ≤ n + 1; omega⟩
    · unfold addE
      rw [if_neg (by rw [bareE_keys]; exact hni)]
      unfold bareE
      rw [List.map_append]; rfl
end
end KF

set_option Elab.async false
set_option linter.all false
set_option maxRecDepth 100000
set_option maxHeartbeats 16000000
namespace KF
open PySem PySem.Spec PyProof.Rows L2 LF
open Evl (Ev EvL EvU EvT EvA Ex sq_of st_of)
theorem val_out {kvs : List (Key × V)} {k : Key} (h : k ∉ kvs.map (·.1)) : valV kvs k = none := by
  unfold valV
  rw [List.find?_eq_none.mpr fun a ha e => h (List.mem_map.mpr ⟨a, ha, of_decide_eq_true e⟩)]; rfl
theorem findP_mem {α : Type} {l : List (Str × α)} {r : Str × α} (nd : (l.map (·.1)).Nodup) (h : r ∈ l) : findP l r.1 = some r.2 := by unfold findP; rw [find_mem nd h]; rfl
theorem findP_no {α : Type} {l : List (Str × α)} {z : Str} (h : z ∉ l.map (·.1)) : findP l z = none := by unfold findP; rw [find_no h]; rfl
section
variable {K : PySem.W.Frag} {σ : L2.St} {H : Hp} {te : TE}
theorem ev_ent {C p : Addr} {mg : Str → Option Value} {es : List (Str × V)} (R : PkTxt K mg C) (h : Ev te σ H (.ref p)) (hp : PkAt C H p es) : ∃ d, H d = some (.dK (kv es)) ∧ Ev (tFld K te "entries") σ H (.ref d) := by
  obtain ⟨dx, d, ⟨x, h1, h3⟩, h2⟩ := hp
  exact ⟨d, h2, fun H1 e Q q => h H1 e _ fun H2 e2 => ⟨p, C, dx, _, _, rfl, (e.trans e2) _ _ h1, R.cl, R.nE, lk_entries d, q H2 e2⟩⟩
theorem ev_isiInt {x : V} (h : Ev te σ H x) (hp : Plain x) (hn : x ≠ .non) : Ev (tCB (rIsi K) (tCons te (tCons (tC (.ty "int")) tNil))) σ H (.bl (!isRef x)) := by
  refine Evl.ev_cb (vs := [x, .ty "int"]) (Evl.ea_cons h (Evl.ea_cons Evl.ev_c Evl.ea_nil)) fun H1 e Q q => ?_
  rcases hp with rfl | ⟨i, rfl⟩ | ⟨z, rfl, _⟩
  · exact absurd rfl hn
  · exact ⟨_, .ty "int", _, _, true, rfl, .ty _, .base (.int i), kit_ty (by decide +kernel), q H1 (Ex.refl H1)⟩
  · exact ⟨_, .ty "int", _, _, false, rfl, .ty _, .base (.str z), kit_ty (by decide +kernel), q H1 (Ex.refl H1)⟩
theorem ev_isNV {x : V} (h : Ev te σ H x) : Ev (tOp (fun x y H Q => y = .non ∧ Q (.bl (decide (x = .non))) H) te (tC .non)) σ H (.bl (decide (x = .non))) :=
  Evl.ev_op h Evl.ev_c fun H1 e Q q => ⟨rfl, q H1 (Ex.refl H1)⟩
end
section
variable {P : Program} {w : World} {K : PySem.W.Frag} {mg : Str → Option Value} {base : Heap} {tk1 tk2 : Tok}
theorem ok_shown {f f1 f2 f3 C : Addr} {fd fd1 fd2 fd3 : FuncData} (F : Fun K "holds_shown" "holds_shown" s_holds_shown f fd) (T : Txt K mg tk1 tk2) (R : PkTxt K mg C) (n_tuple : mg "tuple" = none) (d_ib : DefAt P w K mg base "items_by_place" 1 f1 fd1 ["packages"] (spItems C))
    (d_ip : DefAt P w K mg base "is_path" 2 f2 fd2 ["thing"] (spPath K)) (d_tr : DefAt P w K mg base "is_trail" 3 f3 fd3 ["items", "ends", "path", "thing"] spTrail) : FnOk P w K mg base CX0 4 f fd ["packages", "path", "facts", "trail", "name"] (spShown C) := by
  refine F.ok sc_holds_shown (fun vs H Q E h => ?_) (fun cdv A outer s H vs Q E hr h => ?_)
  · obtain ⟨pk, fs, z, vf, vt, vn, df, dt, dn, rfl, _⟩ := h
    rfl
  have hu := hr.units
  have hu1 := hu_of hr
  refine ⟨_, (pss_cons (ps_set (i := 5) sc_holds_shown.nd rfl (Or.inl rfl) (pe_callD d_ib (hr.mono (by decide)) (pa_cons (pv 0) pa_nil)))
    (pss_cons (ps_if (pt_not (pt_val (pe_callB call_isi (by rfl) T.n_isinstance (by decide +kernel) (pa_cons (pv 2) (pa_cons (pe_bltn (v := .ty "tuple") (by rfl) n_tuple (by decide +kernel) rfl) pa_nil))))) (pss_one (ps_ret pe_bl)) pss_nil)
    (pss_cons (ps_set (i := 6) sc_holds_shown.nd rfl (Or.inl rfl) pe_dnewK)
    (pss_cons (ps_for PassesOwn.never rfl (pi_tup (pv 2)) (pg_name (i := 7) sc_holds_shown.nd rfl (Or.inl rfl)) (pss_cons (ps_if (PW.pt (pw_or (pt_not (pt_val (pe_callB call_isi (by rfl) T.n_isinstance (by decide +kernel) (pa_cons (pv 7) (pa_cons (pe_bltn (v := .ty "tuple") (by rfl) n_tuple (by decide +kernel) rfl) pa_nil))))) (pw_or (pt_cmpR op_ne (pe_callB call_len_seq (by rfl) T.n_len (by decide +kernel) (pa_cons (pv 7) pa_nil)) pe_int (nomark _)) (pw_or1 (pt_not (pt_val (pe_callD d_ip (hr.mono (by decide)) (pa_cons (pe_ix ix_tup (pv 7) pe_int (fun _ _ => rfl)) pa_nil)))))))) (pss_one (ps_ret pe_bl)) pss_nil)
    (pss_cons (ps_if (pt_not (pt_val (pe_callD d_tr (hr.mono (by decide)) (pa_cons (pv 5) (pa_cons (pv 6) (pa_cons (pe_ix ix_tup (pv 7) pe_int (fun _ _ => rfl)) (pa_cons (pe_ix ix_tup (pv 7) pe_int (fun _ _ => rfl)) pa_nil))))))) (pss_one (ps_ret pe_bl)) pss_nil)
    (pss_one (ps_dput hu1 (pe_dsetd (pv 6) (pe_ix ix_tup (pv 7) pe_int (fun _ _ => rfl)) pe_dnewK ⟨rfl, rfl, rfl, rfl⟩) (pe_ix ix_tup (pe_ix ix_tup (pv 7) pe_int (fun _ _ => rfl)) (pe_un un_neg pe_int) (fun _ _ => rfl)) pe_bl rfl)))))
    (pss_cons (ps_if (pt_not (pt_val (pe_callD d_tr (hr.mono (by decide)) (pa_cons (pv 5) (pa_cons (pv 6) (pa_cons (pv 1) (pa_cons (pv 3) pa_nil))))))) (pss_one (ps_ret pe_bl)) pss_nil)
    (pss_cons (ps_set (i := 8) sc_holds_shown.nd rfl (Or.inl rfl) (pe_ix ix_tup (pv 3) (pe_un un_neg pe_int) (fun _ _ => rfl)))
    (pss_cons (ps_if (pt_cmpR op_eq (pv 8) pe_str (nomark _)) (pss_one (ps_ret (pe_cmpR op_isN (pv 4) pe_non (nomark _)))) pss_nil)
    (pss_cons (ps_if (PW.pt (pw_or (pt_not (pt_val (pe_callB call_isi (by rfl) T.n_isinstance (by decide +kernel) (pa_cons (pv 4) (pa_cons (pe_bltn (v := .ty "str") (by rfl) T.n_str (by decide +kernel) rfl) pa_nil))))) (pw_or (pt_cmp (pc_dnotin hu1 (pv 4) (pv 0))) (pw_or1 (pt_cmp (pc_dnotin hu1 (pv 8) (pe_fld (pe_dget hu1 (pv 0) (pv 4) (fun _ _ => rfl)) rfl))))))) (pss_one (ps_ret pe_bl)) pss_nil)
    (pss_cons (ps_set (i := 9) sc_holds_shown.nd rfl (Or.inl rfl) (pe_dget hu1 (pe_fld (pe_dget hu1 (pv 0) (pv 4) (fun _ _ => rfl)) rfl) (pv 8) (fun _ _ => rfl)))
    (pss_one (ps_ret (pe_or (pe_cmpR op_isN (pv 9) pe_non (nomark _)) (pe_one (pe_callB call_isi (by rfl) T.n_isinstance (by decide +kernel) (pa_cons (pv 9) (pa_cons (pe_bltn (v := .ty "int") (by rfl) T.n_int (by decide +kernel) rfl) pa_nil)))))))))))))))), ?_⟩
  obtain ⟨pk, fs, z, vf, vt, vn, df, dt, dn, rfl, hfm, fx, hz, hdf, hdt, hdn, hq⟩ := h
  refine ⟨_, rfl, pk, fs, rfl, hfm, fx.ok, fun H1 q rs e1 hq0 hits hbr => ?_⟩
  have hO : ItO (bareI rs) := by rw [hbr]; exact fx.it
  have e1 : Ex H H1 := e1
  unfold shownS at hq
  refine Evl.q_when (Evl.et_not (Evl.et_B (ev_isi (K := K) (d := df) (evd_var (i := 2) rfl (Dq.same e1 _ _ hdf)) (kit_tup' df)))) (fun h1 H2 e2 => Evl.s_ret Evl.ev_c fun H3 e3 => ?_) (fun h1 H2 e2 => ?_)
  · have := hq H3 ((e1.trans e2).trans e3)
    have e0 : isTup df = false := by simpa using h1
    rw [e0, Bool.false_and] at this
    exact this
  have htf : isTup df = true := by simpa using h1
  rw [htf, Bool.true_and] at hq
  have e12 := e1.trans e2
  have hits2 := hits.ex e2
  intro e he
  obtain ⟨a, xs, rfl, ha, hda, hzx, hlx⟩ := (Dq.same e12 _ _ hdf).tupE htf
  have g0 : Grow H2 (upd H2 e (.dK [])) e [] 0 := ⟨Ex.new he, ⟨upd_same, fun _ h => (nomatch h)⟩, he, .nil, .nil, fun _ h => (nomatch h), Nat.le_refl _⟩
  generalize (upd H2 e (.dK [])) = H3 at g0
  -- a trail asked
  have tr : ∀ {ta tb tc td : TE} {σ : L2.St} {H' : Hp} {en : List ER} {n : Nat} {z' : Str} {d : PyData}, Grow H2 H' e en n → Ev ta σ H' (.ref q) → Ev tb σ H' (.ref e) → Ev tc σ H' (.str z') → EvD td σ H' d → z'.length ≤ 1000 →
      Ev (tCall spTrail [] E0 (tCons ta (tCons tb (tCons tc (tCons td tNil))))) σ H' (.bl (trailS (bareI rs) (bareE en) z' d)) := fun {ta tb tc td σ H' en n z' d} g h1 h2 h3 h4 hz' => by
    obtain ⟨x, h5, h6⟩ := h4
    exact Evl.ev_call (vs := [.ref q, .ref e, .str z', x]) (Evl.ea_cons h1 (Evl.ea_cons h2 (Evl.ea_cons h3 (Evl.ea_cons h5 Evl.ea_nil)))) fun H4 e4 Q4 q4 E4 => ⟨q, e, rs, en, z', x, d, rfl, (hits2.ex g.ex).ex e4, hO, g.a.ex e4, g.k, hz', Dq.same e4 _ _ h6, fun H5 e5 => q4 H5 e5⟩
  refine Evl.q_forT (K := K) (a := a) (xs := xs) (Evl.ev_var (i := 2) rfl) (st_of (g0.ex _ _ ha)) (fun i σ H' => ∃ (v7 : Option V) (en : List ER), σ = [some (.ref pk), some (.str z), some (.ref a), some vt, some vn, some (.ref q), some (.ref e), v7, none, none] ∧ Grow H2 H' e en i ∧ factsS (itemsE fs) (items df) [] = factsS (itemsE fs) ((items df).drop i) (bareE en))
    (fun H4 e4 => ⟨none, [], rfl, g0.up e4, rfl⟩) (fun i σ H' _ ⟨_, _, _, g, _⟩ => st_of (g.ex _ _ ha)) ?_ ?_
  · rintro i x σ H4 hx ⟨v7, en, rfl, g, hfe⟩
    obtain ⟨p, hp, hdp⟩ := hda.get i hx
    have hil : i < (items df).length := (List.getElem?_eq_some_iff.mp hp).1
    have hi1000 : i ≤ 1000 := by omega
    have hdrop : (items df).drop i = p :: (items df).drop (i + 1) := by rw [List.drop_eq_getElem_cons hil, (List.getElem?_eq_some_iff.mp hp).2]
    rw [hdrop] at hfe
    have vp : ∀ {H' : Hp}, Ex H2 H' → EvD (tVar 7) [some (.ref pk), some (.str z), some (.ref a), some vt, some vn, some (.ref q), some (.ref e), some x, none, none] H' p := fun s => evd_var (i := 7) rfl (Dq.same s _ _ hdp)
    have stop : factOk (itemsE fs) (bareE en) p = false → ∀ H', Ex H2 H' → Q (.bl false) H' := fun hf H' s => by
      have := hq H' (e12.trans s)
      rw [hfe] at this
      unfold factsS at this
      rw [if_neg (by rw [hf]; exact Bool.false_ne_true)] at this
      exact this
    have c1 : EvT _ [some (.ref pk), some (.str z), some (.ref a), some vt, some vn, some (.ref q), some (.ref e), some x, none, none] H4 (!isTup p || (!decide (((items p).length : Int) = 2) || !pathD (at' p 0))) :=
      Evl.et_or (Evl.et_not (Evl.et_B (ev_isi (K := K) (vp g.ex) (kit_tup' p)))) fun h2 => Evl.et_or (Evl.et_test (Evl.ev_op (ev_lenD (K := K) (vp g.ex) (Or.inl (by simpa using h2))) Evl.ev_c rv_neI)) fun h3 =>
        Evl.et_not (Evl.et_B (ev_pathD (K := K) (E := E0) (evd_atT (K := K) (i := 0) (vp g.ex) (by simpa using h2) (by have : ((items p).length : Int) = 2 := (by simpa using h3); omega) Evl.ev_c)))
    refine Evl.q_when c1 (fun h2 H5 e5 => Evl.s_ret Evl.ev_c fun H6 e6 => stop ?_ H6 ((g.ex.trans e5).trans e6)) (fun h2 H5 e5 => ?_)
    · unfold factOk isPair
      cases b1 : isTup p with
      | false => rfl
      | true =>
        rw [b1] at h2
        cases b2 : decide (((items p).length : Int) = 2) with
        | false => rfl
        | true =>
          rw [b2] at h2
          have : pathD (at' p 0) = false := by simpa using h2
          rw [this]; rfl
    rw [Bool.or_eq_false_iff, Bool.or_eq_false_iff] at h2
    have b1 : isTup p = true := by simpa using h2.1
    have b2' : ((items p).length : Int) = 2 := by simpa using h2.2.1
    have b3 : pathD (at' p 0) = true := by simpa using h2.2.2
    have b2 : (items p).length = 2 := by omega
    have hfo : factOk (itemsE fs) (bareE en) p = trailS (itemsE fs) (bareE en) (txt (at' p 0)) (at' p 1) := by
      unfold factOk isPair
      rw [b1, decide_eq_true b2', b3]; rfl
    have gg := g.up e5
    have i0 : ∀ {H' : Hp}, Ex H2 H' → EvD (tOp (rIxT K) (tVar 7) (tC (.int 0))) [some (.ref pk), some (.str z), some (.ref a), some vt, some vn, some (.ref q), some (.ref e), some x, none, none] H' (at' p 0) := fun s => evd_atT (K := K) (i := 0) (vp s) b1 (by omega) Evl.ev_c
    have i1 : ∀ {H' : Hp}, Ex H2 H' → EvD (tOp (rIxT K) (tVar 7) (tC (.int 1))) [some (.ref pk), some (.str z), some (.ref a), some vt, some vn, some (.ref q), some (.ref e), some x, none, none] H' (at' p 1) := fun s => evd_atT (K := K) (i := 1) (vp s) b1 (by omega) Evl.ev_c
    have s0 := path_str b3
    have z0 : (txt (at' p 0)).length ≤ 1000 := by
      obtain ⟨y, _, hy⟩ := i0 (Ex.refl H2)
      exact (hy.strE s0).2.1
    refine Evl.q_when (Evl.et_not (Evl.et_B (tr gg (Evl.ev_var (i := 5) rfl) (Evl.ev_var (i := 6) rfl) ((i0 gg.ex).strE s0) (i1 gg.ex) z0))) (fun h3 H6 e6 => Evl.s_ret Evl.ev_c fun H7 e7 => stop ?_ H7 ((gg.ex.trans e6).trans e7)) (fun h3 H6 e6 => ?_)
    · rw [hfo, ← hbr]; simpa using h3
    have htr : trailS (itemsE fs) (bareE en) (txt (at' p 0)) (at' p 1) = true := by rw [← hbr]; simpa using h3
    obtain ⟨t1, t2, t3⟩ := trail_facts htr
    have hls := last_str t2 t3
    refine s_put (gg.up e6) hi1000 (i := 6) rfl ((i0 (Ex.refl H2)).strE s0) ((evd_lastT (K := K) (i1 (Ex.refl H2)) t1 t2).strE hls) fun H7 en' g7 hb7 => ⟨_, en', rfl, g7, ?_⟩
    rw [hfe]
    show (if factOk (itemsE fs) (bareE en) p = true then _ else none) = _
    rw [if_pos (by rw [hfo]; exact htr), hb7]
  · rintro σ H4 ⟨v7, en, rfl, g, hfe⟩
    have hxl : (items df).drop xs.length = [] := List.drop_eq_nil_of_le (by omega)
    rw [hxl] at hfe
    have hfe : factsS (itemsE fs) (items df) [] = some (bareE en) := hfe
    rw [hfe] at hq
    have e24 := e12.trans g.ex
    have vdt : ∀ {H' : Hp} {v8 v9 : Option V}, Ex H H' → EvD (tVar 3) [some (.ref pk), some (.str z), some (.ref a), some vt, some vn, some (.ref q), some (.ref e), v7, v8, v9] H' dt := fun s => evd_var (i := 3) rfl (Dq.same s _ _ hdt)
    have vdn : ∀ {H' : Hp} {v8 v9 : Option V}, Ex H H' → EvD (tVar 4) [some (.ref pk), some (.str z), some (.ref a), some vt, some vn, some (.ref q), some (.ref e), v7, v8, v9] H' dn := fun s => evd_var (i := 4) rfl (Dq.same s _ _ hdn)
    refine Evl.q_when (Evl.et_not (Evl.et_B (tr g (Evl.ev_var (i := 5) rfl) (Evl.ev_var (i := 6) rfl) (Evl.ev_var (i := 1) rfl) (vdt e24) hz))) (fun h3 H5 e5 => Evl.s_ret Evl.ev_c fun H6 e6 => ?_) (fun h3 H5 e5 => ?_)
    · have := hq H6 ((e24.trans e5).trans e6)
      have e0 : trailS (itemsE fs) (bareE en) z dt = false := by rw [← hbr]; simpa using h3
      show Q (.bl false) H6
      simpa only [e0, Bool.false_and] using this
    have htr : trailS (itemsE fs) (bareE en) z dt = true := by rw [← hbr]; simpa using h3
    have hq2 : ∀ H', Ex H H' → Q (.bl (if txt (lastD dt) = "" then isNon dn else nameS fs (txt (lastD dt)) dn)) H' := fun H' s => by
      have := hq H' s
      simpa only [htr, Bool.true_and] using this
    obtain ⟨t1, t2, t3⟩ := trail_facts htr
    have hls := last_str t2 t3
    have e25 := e24.trans e5
    refine Evl.q_asg ((evd_lastT (K := K) (vdt e25) t1 t2).strE hls) fun H6 e6 => ?_
    have e26 := e25.trans e6
    generalize txt (lastD dt) = last at hq2
    refine Evl.q_when (Evl.et_test (ev_eqS (Evl.ev_var (i := 8) rfl) Evl.ev_c)) (fun h4 H7 e7 => ?_) (fun h4 H7 e7 => ?_)
    · refine Evl.s_ret (ev_isN (vdn (e26.trans e7))) fun H8 e8 => ?_
      have := hq2 H8 ((e26.trans e7).trans e8)
      rw [if_pos (of_decide_eq_true h4)] at this
      exact this
    have hl0 : ¬ last = "" := of_decide_eq_false h4
    have hq3 : ∀ H', Ex H H' → Q (.bl (nameS fs last dn)) H' := fun H' s => by
      have := hq2 H' s
      rw [if_neg hl0] at this
      exact this
    have e27 := e26.trans e7
    obtain ⟨kvs, ks, hpk, hks, hperm, hall⟩ := hfm.same e27
    have kin : ∀ n : Str, (valV kvs (.inr n)).isSome = decide (n ∈ fs.map (·.1)) := fun n => by
      by_cases hn : n ∈ fs.map (·.1)
      · obtain ⟨f0, hf0, rfl⟩ := List.mem_map.mp hn
        obtain ⟨p, hp, _⟩ := hall f0 hf0
        rw [hp, decide_eq_true hn]; rfl
      · rw [val_out, decide_eq_false hn]
        · rfl
        · rw [hks]
          intro hm
          obtain ⟨y, hy, hy2⟩ := List.mem_map.mp hm
          cases hy2
          exact hn (hperm.mem_iff.mp hy)
    unfold nameS at hq3
    cases hsn : isStr dn with
    | false =>
      refine Evl.q_when (b := true) (Evl.et_is (Evl.et_or (a := true) (b := true) (Evl.et_is (Evl.et_not (Evl.et_B (ev_isi (K := K) (vdn e27) (kit_str' dn)))) (by rw [hsn]; rfl)) (fun h => nomatch h)) rfl) (fun _ H8 e8 => Evl.s_ret Evl.ev_c fun H9 e9 => ?_) (fun h => nomatch h)
      have := hq3 H9 ((e27.trans e8).trans e9)
      rw [hsn, Bool.false_and] at this
      exact this
    | true =>
      rw [hsn] at hq3
      simp only [Bool.true_and] at hq3
      have ns : ∀ {H' : Hp} {v9 : Option V}, Ex H H' → Ev (tVar 4) [some (.ref pk), some (.str z), some (.ref a), some vt, some vn, some (.ref q), some (.ref e), v7, some (.str last), v9] H' (.str (txt dn)) := fun s => (vdn s).strE hsn
      by_cases hn : txt dn ∈ fs.map (·.1)
      · obtain ⟨f0, hf0, hfn⟩ := List.mem_map.mp hn
        have hfind : findP fs (txt dn) = some f0.2 := by rw [← hfn]; exact findP_mem fx.ok.nd hf0
        rw [hfind] at hq3
        simp only at hq3
        obtain ⟨p, hpv, hpa⟩ := hall f0 hf0
        have pkg : ∀ {H' : Hp} {v9 : Option V}, Ex H7 H' → Ev (tDGet (tVar 0) (tVar 4)) [some (.ref pk), some (.str z), some (.ref a), some vt, some vn, some (.ref q), some (.ref e), v7, some (.str last), v9] H' (.ref p) := fun s =>
          ev_dgetK (k := .inr (txt dn)) (Evl.ev_var (i := 0) rfl) (ns (e27.trans s)) (s _ _ hpk) (by rw [← hfn]; exact hpv)
        obtain ⟨d1, hd1, hev1⟩ := ev_ent R (pkg (v9 := none) (Ex.refl H7)) hpa
        have okE := (fx.ok.ok f0 hf0).1
        have kie : (valV (kv f0.2) (.inr last)).isSome = decide (last ∈ f0.2.map (·.1)) := by
          by_cases hh : last ∈ f0.2.map (·.1)
          · obtain ⟨v, hv⟩ := key_val hh
            rw [hv, decide_eq_true hh]; rfl
          · rw [val_no hh, decide_eq_false hh]; rfl
        have c2 : EvT _ [some (.ref pk), some (.str z), some (.ref a), some vt, some vn, some (.ref q), some (.ref e), v7, some (.str last), none] H7 (!isStr dn || (!decide (txt dn ∈ fs.map (·.1)) || !decide (last ∈ f0.2.map (·.1)))) :=
          Evl.et_or (Evl.et_not (Evl.et_B (ev_isi (K := K) (vdn e27) (kit_str' dn)))) fun _ => Evl.et_or (Evl.et_B (Evl.ev_is (ev_dnotK (k := .inr (txt dn)) (Evl.ev_var (i := 0) rfl) (ns e27) hpk) (by rw [kin]))) fun _ =>
            Evl.et_B (Evl.ev_is (ev_dnotK (k := .inr last) hev1 (Evl.ev_var (i := 8) rfl) hd1) (by rw [kie]))
        by_cases hle : last ∈ f0.2.map (·.1)
        · obtain ⟨en1, hen1, hen2⟩ := List.mem_map.mp hle
          have hf2 : findP f0.2 last = some en1.2 := by rw [← hen2]; exact findP_mem okE.nd hen1
          rw [hf2] at hq3
          simp only at hq3
          have hpl := (okE.it en1 hen1).1
          have hvv : valV (kv f0.2) (.inr last) = some en1.2 := by rw [← hen2]; exact val_mem okE.nd (p := en1.1) (v := en1.2) hen1
          refine Evl.q_when (b := false) (Evl.et_is c2 (by rw [hsn, decide_eq_true hn, decide_eq_true hle]; rfl)) (fun h => nomatch h) (fun _ H8 e8 => ?_)
          have e28 := e27.trans e8
          have hev8 := Evl.Ev.mono e8 hev1
          refine Evl.q_asg (ev_dgetK (k := .inr last) hev8 (Evl.ev_var (i := 8) rfl) (e8 _ _ hd1) hvv) fun H9 e9 => ?_
          refine Evl.s_ret (Evl.ev_is (Evl.ev_orV (a := decide (en1.2 = .non)) (b := !isRef en1.2) (ev_isNV (Evl.ev_var (i := 9) rfl)) fun hne => ev_isiInt (K := K) (Evl.ev_var (i := 9) rfl) hpl (of_decide_eq_false hne)) (w := .bl (!isRef en1.2)) ?_) fun H10 e10 => hq3 H10 ((e28.trans e9).trans e10)
          by_cases hh : en1.2 = .non
          · rw [hh]; rfl
          · rw [decide_eq_false hh, Bool.false_or]
        · have hf2 : findP f0.2 last = none := findP_no hle
          rw [hf2] at hq3
          simp only at hq3
          refine Evl.q_when (b := true) (Evl.et_is c2 (by rw [hsn, decide_eq_true hn, decide_eq_false hle]; rfl)) (fun _ H8 e8 => Evl.s_ret Evl.ev_c fun H9 e9 => hq3 H9 ((e27.trans e8).trans e9)) (fun h => nomatch h)
      · have hfind : findP fs (txt dn) = none := findP_no hn
        rw [hfind] at hq3
        simp only at hq3
        refine Evl.q_when (b := true) (Evl.et_is (Evl.et_or (a := false) (b := true) (Evl.et_is (Evl.et_not (Evl.et_B (ev_isi (K := K) (vdn e27) (kit_str' dn)))) (by rw [hsn]; rfl)) fun _ => Evl.et_or (a := true) (b := true) (Evl.et_B (Evl.ev_is (ev_dnotK (k := .inr (txt dn)) (Evl.ev_var (i := 0) rfl) (ns e27) hpk) (by rw [kin, decide_eq_false hn]; rfl))) fun h => nomatch h) rfl) (fun _ H8 e8 => Evl.s_ret Evl.ev_c fun H9 e9 => hq3 H9 ((e27.trans e8).trans e9)) (fun h => nomatch h)
end
end KF

set_option Elab.async false
set_option linter.all false
set_option maxRecDepth 100000
set_option maxHeartbeats 16000000
namespace KF
open PySem PySem.Spec PyProof.Rows L2 LF
open Evl (Ev EvL EvU EvT EvA Ex sq_of st_of)
theorem TbV.ex {H H' : Hp} {v : V} {its : List (Str × List V)} {z : Str} {res : Bool} (h : TbV H v its z res) (s : Ex H H') : TbV H' v its z res := by
  rcases h with ⟨d, h1, h2⟩ | ⟨a, tb, h1, h2, h3, h4⟩
  · exact Or.inl ⟨d, Dq.same s _ _ h1, h2⟩
  · exact Or.inr ⟨a, tb, h1, h2.ex s, h3, h4⟩
def holdsD (fs : List (Str × List (Str × V))) (d : PyData) : Bool :=
  isTup d && (!decide (((items d).length : Int) < 3) && (isStr (at' d 0) && (pathD (at' d 1) && (decide (txt (at' d 0) = "shown") && (decide (((items d).length : Int) = 5) && shownS fs (txt (at' d 1)) (at' d 2) (at' d 3) (at' d 4))))))
/-- a paper, or anything -/
def ThA (K : PySem.W.Frag) (H : Hp) (v : V) (fs : List (Str × List (Str × V))) (res : Bool) : Prop :=
  (∃ d, Dq H v d ∧ res = holdsD fs d) ∨
  (∃ (a b : Addr) (x0 x1 : V) (rest : List V) (d0 d1 : PyData) (tb : List (Key × PyData)), v = .ref a ∧ H a = some (.tup (x0 :: x1 :: .ref b :: rest)) ∧ Dq H x0 d0 ∧ Dq H x1 d1 ∧ TabA H b tb ∧ TabOk tb ∧ rest.length ≤ 1 ∧
    res = (isStr d0 && (pathD d1 && (decide (txt d0 = "absent") && (decide (rest.length = 0) && absentS (itemsE fs) (txt d1) tb))))) ∨
  ((∃ t, TyX K H v t ∧ PySem.W.kitOne K t (.type "tuple") = some false) ∧ res = false)
def spHolds (K : PySem.W.Frag) (C : Addr) : Sp := fun vs H Q _ => ∃ (pk : Addr) (fs : List (Str × List (Str × V))) (v : V) (res : Bool), vs = [.ref pk, v] ∧ FarmA C H pk fs ∧ FarmX fs ∧ ThA K H v fs res ∧ ∀ H', Ex H H' → Q (.bl res) H'
abbrev s_holds : Stmt := topS 26
abbrev N_holds : List Str := ["packages", "thing"]
theorem sc_holds : FnScope ["packages", "thing"] ["packages", "thing"] (defScope s_holds) := ⟨rfl, rfl, rfl, by decide +kernel, rfl, by decide +kernel, by decide +kernel⟩
def TupF (H : Hp) (v : V) (fs : List (Str × List (Str × V))) (res : Bool) : Prop := ∃ (a : Addr) (xs : List V) (x0 x1 : V) (d0 d1 : PyData), v = .ref a ∧ H a = some (.tup xs) ∧ (3 ≤ xs.length → xs[0]? = some x0 ∧ xs[1]? = some x1 ∧ Dq H x0 d0 ∧ Dq H x1 d1) ∧ (¬ (3 ≤ xs.length ∧ isStr d0 = true ∧ pathD d1 = true) → res = false) ∧
      (3 ≤ xs.length → isStr d0 = true → pathD d1 = true → txt d0 = "shown" → xs.length = 5 → ∃ vf vt vn df dt dn, xs = [x0, x1, vf, vt, vn] ∧ Dq H vf df ∧ Dq H vt dt ∧ Dq H vn dn ∧ res = shownS fs (txt d1) df dt dn) ∧
      (3 ≤ xs.length → isStr d0 = true → pathD d1 = true → txt d0 = "absent" → xs.length = 3 → ∃ v2, xs = [x0, x1, v2] ∧ TbV H v2 (itemsE fs) (txt d1) res) ∧
      (3 ≤ xs.length → isStr d0 = true → pathD d1 = true → ¬ (txt d0 = "shown" ∧ xs.length = 5) → ¬ (txt d0 = "absent" ∧ xs.length = 3) → res = false)
theorem th_cases {K : PySem.W.Frag} {H : Hp} {v : V} {fs : List (Str × List (Str × V))} {res : Bool} (hth : ThA K H v fs res) : ((∃ t, TyX K H v t ∧ PySem.W.kitOne K t (.type "tuple") = some false) ∧ res = false) ∨ TupF H v fs res := by
  rcases hth with ⟨d, hd, rfl⟩ | ⟨a, b, x0, x1, rest, d0, d1, tb, rfl, ha, g0, g1, hta, tok, hrl, rfl⟩ | ⟨hty, rfl⟩
  · cases ht : isTup d with
    | false => exact Or.inl ⟨⟨_, hd.ty, by rw [kit_tup', ht]⟩, by unfold holdsD; rw [ht]; rfl⟩
    | true =>
      obtain ⟨a, xs, rfl, ha, hda, hz, hl⟩ := hd.tupE ht
      have gt : ∀ i, i < (items d).length → ∃ y, xs[i]? = some y ∧ Dq H y (at' d i) := fun i hi => by
        obtain ⟨y, hy, hq2⟩ := hda.get' i (List.getElem?_eq_getElem hi)
        exact ⟨y, hy, by rw [at_of rfl hi]; exact hq2⟩
      by_cases h3 : 3 ≤ xs.length
      · obtain ⟨x0, k0, g0⟩ := gt 0 (by omega)
        obtain ⟨x1, k1, g1⟩ := gt 1 (by omega)
        refine Or.inr ⟨a, xs, x0, x1, at' d 0, at' d 1, rfl, ha, fun _ => ⟨k0, k1, g0, g1⟩, fun hn => ?_, fun _ h4 h5 h6 h7 => ?_, fun _ h4 h5 h6 h7 => ?_, fun _ h4 h5 h6 h7 => ?_⟩
        · unfold holdsD
          cases b4 : isStr (at' d 0) with
          | false => simp
          | true => cases b5 : pathD (at' d 1) with
            | false => simp
            | true => exact absurd ⟨h3, b4, b5⟩ hn
        · obtain ⟨x2, k2, g2⟩ := gt 2 (by omega)
          obtain ⟨x3, k3, g3⟩ := gt 3 (by omega)
          obtain ⟨x4, k4, g4⟩ := gt 4 (by omega)
          refine ⟨x2, x3, x4, _, _, _, ?_, g2, g3, g4, ?_⟩
          · match xs, h7, k0, k1, k2, k3, k4 with
            | [a0, a1, a2, a3, a4], _, k0, k1, k2, k3, k4 =>
              cases k0; cases k1; cases k2; cases k3; cases k4; rfl
          · unfold holdsD
            rw [ht, h4, h5, decide_eq_false (show ¬ ((items d).length : Int) < 3 by omega), decide_eq_true h6, decide_eq_true (show ((items d).length : Int) = 5 by omega)]; rfl
        · obtain ⟨x2, k2, g2⟩ := gt 2 (by omega)
          refine ⟨x2, ?_, Or.inl ⟨_, g2, ?_⟩⟩
          · match xs, h7, k0, k1, k2 with
            | [a0, a1, a2], _, k0, k1, k2 =>
              cases k0; cases k1; cases k2; rfl
          · unfold holdsD
            rw [decide_eq_false (show ¬ ((items d).length : Int) = 5 by omega)]; simp
        · unfold holdsD
          by_cases c1 : txt (at' d 0) = "shown"
          · rw [decide_eq_false (show ¬ ((items d).length : Int) = 5 from fun e => h6 ⟨c1, by omega⟩)]; simp
          · rw [decide_eq_false c1]; simp
      · refine Or.inr ⟨a, xs, .non, .non, .none, .none, rfl, ha, fun h => absurd h h3, fun hn => ?_, fun h => absurd h h3, fun h => absurd h h3, fun h => absurd h h3⟩
        unfold holdsD
        rw [decide_eq_true (show ((items d).length : Int) < 3 by omega)]; simp
  · refine Or.inr ⟨a, _, x0, x1, d0, d1, rfl, ha, fun _ => ⟨rfl, rfl, g0, g1⟩, fun hn => ?_, fun _ h4 h5 h6 h7 => ?_, fun _ h4 h5 h6 h7 => ?_, fun _ h4 h5 h6 h7 => ?_⟩
    · cases b4 : isStr d0 with
      | false => simp
      | true => cases b5 : pathD d1 with
        | false => simp
        | true => exact absurd ⟨by simp, b4, b5⟩ hn
    · simp at h7; omega
    · have hr0 : rest = [] := by
        cases rest with
        | nil => rfl
        | cons _ _ => simp at h7
      subst hr0
      refine ⟨.ref b, rfl, Or.inr ⟨b, tb, rfl, hta, tok, ?_⟩⟩
      rw [h4, h5, decide_eq_true h6]; simp
    · by_cases c1 : txt d0 = "absent"
      · rw [decide_eq_false (show ¬ rest.length = 0 from fun e => h7 ⟨c1, by simp [e]⟩)]; simp
      · rw [decide_eq_false c1]; simp
  · exact Or.inl ⟨hty, rfl⟩
section
variable {P : Program} {w : World} {K : PySem.W.Frag} {mg : Str → Option Value} {base : Heap} {tk1 tk2 : Tok}
theorem ok_holds {f f1 f2 f3 C : Addr} {fd fd1 fd2 fd3 : FuncData} (F : Fun K "holds" "holds" s_holds f fd) (T : Txt K mg tk1 tk2) (n_tuple : mg "tuple" = none) (d_ip : DefAt P w K mg base "is_path" 2 f1 fd1 ["thing"] (spPath K))
    (d_sh : DefAt P w K mg base "holds_shown" 4 f2 fd2 ["packages", "path", "facts", "trail", "name"] (spShown C)) (d_ab : DefAt P w K mg base "holds_absent" 7 f3 fd3 ["packages", "path", "table"] (spAbsent C)) : FnOk P w K mg base CX0 8 f fd ["packages", "thing"] (spHolds K C) := by
  refine F.ok sc_holds (fun vs H Q E h => ?_) (fun cdv A outer s H vs Q E hr h => ?_)
  · obtain ⟨pk, fs, v, res, rfl, _⟩ := h
    rfl
  have hu := hr.units
  refine ⟨_, (pss_cons (ps_if (PW.pt (pw_or (pt_not (pt_val (pe_callB call_isi (by rfl) T.n_isinstance (by decide +kernel) (pa_cons (pv 1) (pa_cons (pe_bltn (v := .ty "tuple") (by rfl) n_tuple (by decide +kernel) rfl) pa_nil))))) (pw_or (pt_cmpR op_lt (pe_callB call_len_seq (by rfl) T.n_len (by decide +kernel) (pa_cons (pv 1) pa_nil)) pe_int (nomark _)) (pw_or (pt_not (pt_val (pe_callB call_isi (by rfl) T.n_isinstance (by decide +kernel) (pa_cons (pe_ix ix_tup (pv 1) pe_int (fun _ _ => rfl)) (pa_cons (pe_bltn (v := .ty "str") (by rfl) T.n_str (by decide +kernel) rfl) pa_nil))))) (pw_or1 (pt_not (pt_val (pe_callD d_ip (hr.mono (by decide)) (pa_cons (pe_ix ix_tup (pv 1) pe_int (fun _ _ => rfl)) pa_nil))))))))) (pss_one (ps_ret pe_bl)) pss_nil)
    (pss_cons (ps_if (PW.pt (pw_and (pt_cmpR op_eq (pe_ix ix_tup (pv 1) pe_int (fun _ _ => rfl)) pe_str (nomark _)) (pw_and1 (pt_cmpR op_eq (pe_callB call_len_seq (by rfl) T.n_len (by decide +kernel) (pa_cons (pv 1) pa_nil)) pe_int (nomark _))))) (pss_one (ps_ret (pe_callD d_sh (hr.mono (by decide)) (pa_cons (pv 0) (pa_cons (pe_ix ix_tup (pv 1) pe_int (fun _ _ => rfl)) (pa_cons (pe_ix ix_tup (pv 1) pe_int (fun _ _ => rfl)) (pa_cons (pe_ix ix_tup (pv 1) pe_int (fun _ _ => rfl)) (pa_cons (pe_ix ix_tup (pv 1) pe_int (fun _ _ => rfl)) pa_nil)))))))) pss_nil)
    (pss_cons (ps_if (PW.pt (pw_and (pt_cmpR op_eq (pe_ix ix_tup (pv 1) pe_int (fun _ _ => rfl)) pe_str (nomark _)) (pw_and1 (pt_cmpR op_eq (pe_callB call_len_seq (by rfl) T.n_len (by decide +kernel) (pa_cons (pv 1) pa_nil)) pe_int (nomark _))))) (pss_one (ps_ret (pe_callD d_ab (hr.mono (by decide)) (pa_cons (pv 0) (pa_cons (pe_ix ix_tup (pv 1) pe_int (fun _ _ => rfl)) (pa_cons (pe_ix ix_tup (pv 1) pe_int (fun _ _ => rfl)) pa_nil)))))) pss_nil)
    (pss_one (ps_ret pe_bl))))), ?_⟩
  obtain ⟨pk, fs, v, res, rfl, hfm, fx, hth, hq⟩ := h
  rcases th_cases hth with ⟨⟨t, ty, hk⟩, rfl⟩ | ⟨a, xs, x0, x1, d0, d1, ev, ha, hx, hno, hsh, hab, hnn⟩
  · exact Evl.q_when (b := true) (Evl.et_is (Evl.et_or (a := true) (b := true) (Evl.et_is (Evl.et_not (a := false) (Evl.et_B (Evl.ev_cb (vs := [v, .ty "tuple"]) (Evl.ea_cons (Evl.ev_var (i := 1) rfl) (Evl.ea_cons Evl.ev_c Evl.ea_nil)) fun H1 e Q q => ⟨v, .ty "tuple", _, _, false, rfl, .ty _, TyX.same ty e, hk, q H1 (Ex.refl H1)⟩))) rfl) (fun h => nomatch h)) rfl) (fun _ H1 e1 => Evl.s_ret Evl.ev_c fun H2 e2 => hq H2 (e1.trans e2)) (fun h => nomatch h)
  · subst ev
    have v1 : ∀ {i : Nat} {y : V} {H1 : Hp}, xs[i]? = some y → Ex H H1 → Ev (tOp (rIxT K) (tVar 1) (tC (.int (i : Int)))) [some (.ref pk), some (.ref a)] H1 y := fun hi s => Evl.ev_op (Evl.ev_var (i := 1) rfl) Evl.ev_c (Evl.rv_ixT (st_of (s _ _ ha)) (atI_nat hi))
    have isT : Ev (tCB (rIsi K) (tCons (tVar 1) (tCons (tC (.ty "tuple")) tNil))) [some (.ref pk), some (.ref a)] H (.bl true) := by
      refine Evl.ev_cb (vs := [.ref a, .ty "tuple"]) (Evl.ea_cons (Evl.ev_var (i := 1) rfl) (Evl.ea_cons Evl.ev_c Evl.ea_nil)) fun H1 e Q q => ?_
      exact ⟨_, .ty "tuple", _, _, true, rfl, .ty _, .base (.tup (e _ _ ha)), kit_ty (by decide +kernel), q H1 (Ex.refl H1)⟩
    have ln : ∀ {H1 : Hp}, Ex H H1 → Ev (tCB (Evl.rLenS K) (tCons (tVar 1) tNil)) [some (.ref pk), some (.ref a)] H1 (.int (xs.length : Int)) := fun s =>
      Evl.ev_cb (vs := [.ref a]) (Evl.ea_cons (Evl.ev_var (i := 1) rfl) Evl.ea_nil) fun H1 e Q q => ⟨a, xs, rfl, Or.inr (st_of ((s.trans e) _ _ ha)), q H1 (Ex.refl H1)⟩
    have c1 : EvT _ [some (.ref pk), some (.ref a)] H (!true || (decide ((xs.length : Int) < 3) || (!isStr d0 || !pathD d1))) :=
      Evl.et_or (Evl.et_not (Evl.et_B isT)) fun _ => Evl.et_or (Evl.et_test (Evl.ev_op (ln (Ex.refl H)) Evl.ev_c (Evl.rv_I0 (g := fun i j => .bl (decide (i < j))) (j := 3)))) fun h2 => by
        have h3 : 3 ≤ xs.length := by have := of_decide_eq_false h2; omega
        obtain ⟨h0, h1, g0, g1⟩ := hx h3
        exact Evl.et_or (Evl.et_not (Evl.et_B (ev_isi (K := K) (d := d0) ⟨x0, v1 (i := 0) h0 (Ex.refl H), g0⟩ (kit_str' d0)))) fun _ => Evl.et_not (Evl.et_B (ev_pathD (K := K) (E := E0) ⟨x1, v1 (i := 1) h1 (Ex.refl H), g1⟩))
    refine Evl.q_when c1 (fun h2 H1 e1 => Evl.s_ret Evl.ev_c fun H2 e2 => ?_) (fun h2 H1 e1 => ?_)
    · have := hq H2 (e1.trans e2)
      rw [hno (fun ⟨h3, h4, h5⟩ => by
        rw [h4, h5, decide_eq_false (by omega)] at h2
        cases h2)] at this
      exact this
    rw [Bool.or_eq_false_iff, Bool.or_eq_false_iff, Bool.or_eq_false_iff] at h2
    have h3 : 3 ≤ xs.length := by have := of_decide_eq_false h2.2.1; omega
    have h4 : isStr d0 = true := by simpa using h2.2.2.1
    have h5 : pathD d1 = true := by simpa using h2.2.2.2
    obtain ⟨k0, k1, g0, g1⟩ := hx h3
    have st1 := path_str h5
    have t0 : ∀ {H2 : Hp}, Ex H H2 → Ev (tOp (rIxT K) (tVar 1) (tC (.int 0))) [some (.ref pk), some (.ref a)] H2 (.str (txt d0)) := fun s => (show EvD _ _ _ d0 from ⟨x0, v1 (i := 0) k0 s, Dq.same s _ _ g0⟩).strE h4
    have t1 : ∀ {H2 : Hp}, Ex H H2 → Ev (tOp (rIxT K) (tVar 1) (tC (.int 1))) [some (.ref pk), some (.ref a)] H2 (.str (txt d1)) := fun s => (show EvD _ _ _ d1 from ⟨x1, v1 (i := 1) k1 s, Dq.same s _ _ g1⟩).strE st1
    have hz1 : (txt d1).length ≤ 1000 := (g1.strE st1).2.1
    refine Evl.q_when (Evl.et_and (Evl.et_test (ev_eqS (t0 e1) Evl.ev_c)) fun _ => Evl.et_test (ev_eqI (ln e1) Evl.ev_c)) (fun h6 H2 e2 => ?_) (fun h6 H2 e2 => ?_)
    · rw [Bool.and_eq_true] at h6
      obtain ⟨vf, vt, vn, df, dt, dn, rfl, q2, q3, q4, rfl⟩ := hsh h3 h4 h5 (of_decide_eq_true h6.1) (by have := of_decide_eq_true h6.2; omega)
      have e12 := e1.trans e2
      refine Evl.s_ret (Evl.ev_call (vs := [.ref pk, .str (txt d1), vf, vt, vn]) (Evl.ea_cons (Evl.ev_var (i := 0) rfl) (Evl.ea_cons (t1 e12) (Evl.ea_cons (v1 (i := 2) rfl e12) (Evl.ea_cons (v1 (i := 3) rfl e12) (Evl.ea_cons (v1 (i := 4) rfl e12) Evl.ea_nil))))) fun H3 e3 Q3 q5 E3 => ⟨pk, fs, txt d1, vf, vt, vn, df, dt, dn, rfl, hfm.same (e12.trans e3), fx, hz1, Dq.same (e12.trans e3) _ _ q2, Dq.same (e12.trans e3) _ _ q3, Dq.same (e12.trans e3) _ _ q4, fun H4 e4 => q5 H4 e4⟩) fun H3 e3 => hq H3 (e12.trans e3)
    have e12 := e1.trans e2
    refine Evl.q_when (Evl.et_and (Evl.et_test (ev_eqS (t0 e12) Evl.ev_c)) fun _ => Evl.et_test (ev_eqI (ln e12) Evl.ev_c)) (fun h7 H3 e3 => ?_) (fun h7 H3 e3 => ?_)
    · rw [Bool.and_eq_true] at h7
      obtain ⟨v2, rfl, q2⟩ := hab h3 h4 h5 (of_decide_eq_true h7.1) (by have := of_decide_eq_true h7.2; omega)
      have e13 := e12.trans e3
      refine Evl.s_ret (Evl.ev_call (vs := [.ref pk, .str (txt d1), v2]) (Evl.ea_cons (Evl.ev_var (i := 0) rfl) (Evl.ea_cons (t1 e13) (Evl.ea_cons (v1 (i := 2) rfl e13) Evl.ea_nil))) fun H4 e4 Q4 q5 E4 => ⟨pk, fs, txt d1, v2, res, rfl, hfm.same (e13.trans e4), fx, hz1, q2.ex (e13.trans e4), fun H5 e5 => q5 H5 e5⟩) fun H4 e4 => hq H4 (e13.trans e4)
    refine Evl.s_ret Evl.ev_c fun H4 e4 => ?_
    have := hq H4 ((e12.trans e3).trans e4)
    rw [hnn h3 h4 h5 (fun ⟨m1, m2⟩ => by rw [decide_eq_true m1, decide_eq_true (by omega)] at h6; cases h6) (fun ⟨m1, m2⟩ => by rw [decide_eq_true m1, decide_eq_true (by omega)] at h7; cases h7)] at this
    exact this
end
end KF

set_option Elab.async false
set_option linter.all false
set_option maxRecDepth 100000
set_option maxHeartbeats 8000000
namespace LF
open PySem PySem.Spec PyProof.Rows L2
theorem op_isB {X : Cx} : OpR X (compareOp .Is) (fun x y H Q => ∃ a b, x = .bl a ∧ y = .bl b ∧ Q (.bl (decide (a = b))) H) := by
  intro pins s σ H x y v u Q I rx ry h
  obtain ⟨a, b, rfl, rfl, q⟩ := h
  cases (show v = Value.bool a from rx)
  cases (show u = Value.bool b from ry)
  by_cases e : a = b
  · subst e
    exact wpAny_is_self rfl ⟨.bl true, H, I, rfl, by simpa using q⟩
  · exact wpAny_is_other rfl (fun z => e (Value.bool.inj z)) ⟨.bl false, H, I, rfl, by simpa [e] using q⟩
theorem op_isNB {X : Cx} : OpR X (compareOp .IsNot) (fun x y H Q => ∃ a b, x = .bl a ∧ y = .bl b ∧ Q (.bl (!decide (a = b))) H) := by
  intro pins s σ H x y v u Q I rx ry h
  obtain ⟨a, b, rfl, rfl, q⟩ := h
  cases (show v = Value.bool a from rx)
  cases (show u = Value.bool b from ry)
  by_cases e : a = b
  · subst e
    exact wpAny_isNot_self rfl ⟨.bl false, H, I, rfl, by simpa using q⟩
  · exact wpAny_isNot_other rfl (fun z => e (Value.bool.inj z)) ⟨.bl true, H, I, rfl, by simpa [e] using q⟩
end LF
namespace KF
open PySem PySem.Spec PyProof.Rows L2 LF
open Evl (Ev EvL EvU EvT EvA Ex sq_of st_of)
open PySem.W (EachIs)
/-! what is made here: of the heap, all but the addresses in S -/
open Classical in
noncomputable def wS (S : Addr → Prop) (H : Hp) : Hp := fun a => if S a then none else H a
section
variable {S : Addr → Prop} {H H' H1 H2 : Hp} {a p : Addr} {o : HO}
theorem wS_get (h : wS S H a = some o) : ¬ S a ∧ H a = some o := by
  unfold wS at h
  split at h
  · cases h
  · exact ⟨by assumption, h⟩
theorem wS_put (n : ¬ S a) (h : H a = some o) : wS S H a = some o := by
  unfold wS; rw [if_neg n]; exact h
theorem wS_ex : Ex (wS S H) H := fun a o h => (wS_get h).2
structure Kp (S : Addr → Prop) (H H1 : Hp) : Prop where
  k : ∀ a o, ¬ S a → H a = some o → H1 a = some o
  s : ∀ a, S a → H1 a ≠ none
theorem Kp.ex (k : Kp S H H1) (e : Ex H1 H2) : Kp S H H2 := ⟨fun a o n h => e _ _ (k.k a o n h), fun a h => by
  cases hh : H1 a with
  | none => exact absurd hh (k.s a h)
  | some o => rw [e a o hh]; intro z; cases z⟩
theorem Kp.ws (k : Kp S H H1) : Ex (wS S H) (wS S H1) := fun a o h => wS_put (wS_get h).1 (k.k a o (wS_get h).1 (wS_get h).2)
theorem Kp.wsx (k : Kp S H H1) (e : Ex H1 H2) : Ex (wS S H1) (wS S H2) := fun a o h => wS_put (wS_get h).1 (e _ _ (wS_get h).2)
theorem Kp.fresh (k : Kp S H H1) (h : H1 p = none) : ¬ S p := fun s => k.s p s h
theorem Kp.refl (s : ∀ a, S a → H a ≠ none) : Kp S H H := ⟨fun _ _ _ h => h, s⟩
theorem ws_ex (e : Ex H1 H2) : Ex (wS S H1) (wS S H2) := fun a o h => wS_put (wS_get h).1 (e _ _ (wS_get h).2)
end
def EG (S : Addr → Prop) (te : TE) (σ : L2.St) (H : Hp) (P : V → Hp → Prop) : Prop := ∀ H1, Kp S H H1 → ∀ Q : VK, (∀ v H2, Ex H1 H2 → P v (wS S H2) → Q v H2) → te σ H1 Q
def EGA (S : Addr → Prop) (ta : TA) (σ : L2.St) (H : Hp) (P : List V → Hp → Prop) : Prop := ∀ H1, Kp S H H1 → ∀ Q : List V → Hp → Prop, (∀ vs H2, Ex H1 H2 → P vs (wS S H2) → Q vs H2) → ta σ H1 Q
abbrev EW (S : Addr → Prop) (te : TE) (σ : L2.St) (H : Hp) (d : PyData) : Prop := EG S te σ H fun v H => Dq H v d
abbrev EWA (S : Addr → Prop) (ta : TA) (σ : L2.St) (H : Hp) (ds : List PyData) : Prop := EGA S ta σ H fun vs H => DqAll H vs ds
/-- a thing: data, a tuple with a table, or another one that is no tuple -/
inductive Th where
  | dat (d : PyData)
  | tab (d0 d1 : PyData) (tb : List (Key × PyData)) (n : Nat)
  | opq
def ThR (K : PySem.W.Frag) (H : Hp) (v : V) : Th → Prop
  | .dat d => Dq H v d
  | .tab d0 d1 tb n => ∃ (a b : Addr) (x0 x1 : V) (rest : List V), v = .ref a ∧ H a = some (.tup (x0 :: x1 :: .ref b :: rest)) ∧ Dq H x0 d0 ∧ Dq H x1 d1 ∧ TabA H b tb ∧ rest.length = n
  | .opq => ∃ t, TyX K H v t ∧ PySem.W.kitOne K t (.type "tuple") = some false
theorem ThR.ex {K : PySem.W.Frag} {H H' : Hp} {v : V} : ∀ {t : Th}, ThR K H v t → Ex H H' → ThR K H' v t
  | .dat d, h, s => Dq.same s _ _ h
  | .tab d0 d1 tb n, ⟨a, b, x0, x1, rest, e1, e2, e3, e4, e5, e6⟩, s => ⟨a, b, x0, x1, rest, e1, s _ _ e2, Dq.same s _ _ e3, Dq.same s _ _ e4, e5.ex s, e6⟩
  | .opq, ⟨t, h1, h2⟩, s => ⟨t, TyX.same h1 s, h2⟩
theorem each_th {K : PySem.W.Frag} {H H' : Hp} (s : Ex H H') {vs : List V} {ts : List Th} (h : EachIs (ThR K H) vs ts) : EachIs (ThR K H') vs ts := h.mono fun _ _ r => r.ex s
abbrev EWT (K : PySem.W.Frag) (S : Addr → Prop) (te : TE) (σ : L2.St) (H : Hp) (t : Th) : Prop := EG S te σ H fun v H => ThR K H v t
abbrev EWTA (K : PySem.W.Frag) (S : Addr → Prop) (ta : TA) (σ : L2.St) (H : Hp) (ts : List Th) : Prop := EGA S ta σ H fun vs H => EachIs (ThR K H) vs ts
abbrev EWB (S : Addr → Prop) (te : TE) (σ : L2.St) (H : Hp) (tb : List (Key × PyData)) : Prop := EG S te σ H fun v H => ∃ b, v = .ref b ∧ TabA H b tb
/-- a list of things -/
abbrev EWL (K : PySem.W.Frag) (S : Addr → Prop) (te : TE) (σ : L2.St) (H : Hp) (ts : List Th) : Prop := EG S te σ H fun v H => ∃ p vs, v = .ref p ∧ H p = some (.lst vs) ∧ EachIs (ThR K H) vs ts
section
variable {K : PySem.W.Frag} {S : Addr → Prop} {σ : L2.St} {H : Hp} {te ta tb t0 t1 t2 : TE} {tr : TA} {v : V} {d d0 d1 : PyData} {ds : List PyData} {ts us : List Th} {t : Th}
theorem ew_non : EW S (tC .non) σ H .none := fun H1 k Q q => q _ H1 (Ex.refl H1) .non
theorem ew_bl (b : Bool) : EW S (tC (.bl b)) σ H (.bool b) := fun H1 k Q q => q _ H1 (Ex.refl H1) (.bl b)
theorem ew_int (i : Int) : EW S (tC (.int i)) σ H (.int i) := fun H1 k Q q => q _ H1 (Ex.refl H1) (.int i)
theorem ew_str (z : Str) (h : (decide (z.length ≤ 1000) && PyData.strOk z) = true) : EW S (tC (.str z)) σ H (.str z) := fun H1 k Q q => by
  rw [Bool.and_eq_true, decide_eq_true_eq] at h
  exact q _ H1 (Ex.refl H1) (.str z h.1 h.2)
theorem eg_var {P : V → Hp → Prop} {i : Nat} (hP : ∀ v H H', P v H → Ex H H' → P v H') (hi : σ[i]? = some (some v)) (hd : P v (wS S H)) : EG S (tVar i) σ H P := fun H1 k Q q => ⟨v, hi, q v H1 (Ex.refl H1) (hP _ _ _ hd k.ws)⟩
theorem ew_var {i : Nat} (hi : σ[i]? = some (some v)) (hd : Dq (wS S H) v d) : EW S (tVar i) σ H d := eg_var (fun v H H' h s => Dq.same s _ _ h) hi hd
theorem eb_var {i : Nat} {b : Addr} {tb : List (Key × PyData)} (hi : σ[i]? = some (some (.ref b))) (hd : TabA (wS S H) b tb) : EWB S (tVar i) σ H tb := eg_var (P := fun v H => ∃ b, v = .ref b ∧ TabA H b tb) (fun v H H' ⟨b, h1, h2⟩ s => ⟨b, h1, h2.ex s⟩) hi ⟨b, rfl, hd⟩
theorem ewa_nil : EWA S tNil σ H [] := fun H1 k Q q => q [] H1 (Ex.refl H1) .nil
theorem ewa_cons (h : EW S te σ H d) (hr : EWA S tr σ H ds) : EWA S (tCons te tr) σ H (d :: ds) := fun H1 k Q q =>
  h H1 k _ fun v H2 e2 p2 => hr H2 (k.ex e2) _ fun vs H3 e3 p3 => q _ H3 (e2.trans e3) (.cons (Dq.same (ws_ex e3) _ _ p2) p3)
theorem ew_tup (h : EWA S tr σ H ds) (hn : ds.length ≤ 1000) : EW S (tTup tr) σ H (.tuple ds) := fun H1 k Q q =>
  h H1 k _ fun vs H2 e2 p2 => ⟨by rw [p2.len]; exact Evl.sz_of (by omega), fun p hp => q _ _ (e2.trans (Ex.new hp)) (.tup (wS_put ((k.ex e2).fresh hp) upd_same) (DqAll.same (ws_ex (Ex.new hp)) _ _ p2) (by rw [p2.len]; exact hn))⟩
theorem ew_lst (h : EWA S tr σ H ds) (hn : ds.length ≤ 1000) : EW S (tLst tr) σ H (.list ds) := fun H1 k Q q =>
  h H1 k _ fun vs H2 e2 p2 => ⟨by rw [p2.len]; exact Evl.sz_of (by omega), fun p hp => q _ _ (e2.trans (Ex.new hp)) (.lst (wS_put ((k.ex e2).fresh hp) upd_same) (DqAll.same (ws_ex (Ex.new hp)) _ _ p2) (by rw [p2.len]; exact hn))⟩
theorem dq_take {H : Hp} : ∀ {vs : List V} {ds : List PyData} (n : Nat), DqAll H vs ds → DqAll H (vs.take n) (ds.take n)
  | _, _, 0, _ => .nil
  | _, _, _ + 1, .nil => .nil
  | _, _, n + 1, .cons h t => .cons h (dq_take n t)
/-- t[:n], a part of it -/
theorem ew_cut {n : Nat} (h : EW S te σ H (.tuple ds)) (hn : n < ds.length) (hz : ds.length ≤ 1000) : EW S (tSl (rSlT K) te tNoPart (tPart (tC (.int (n : Int))))) σ H (.tuple (ds.take n)) := fun H1 k Q q =>
  h H1 k _ fun v H2 e2 p2 => by
    obtain ⟨a, xs, rfl, ha, hd, hz2, hl⟩ := p2.tupE rfl
    have hl : xs.length = ds.length := hl
    refine ⟨(n : Int), rfl, a, xs, rfl, st_of (wS_get ha).2, ?_, fun p hp => ?_⟩
    · unfold HT.sIx
      intro hh
      have := hh.2
      simp at this
      rw [if_neg (show ¬ ((n : Int) < 0) by omega)] at this
      have : (items (PyData.tuple ds)).length = ds.length := rfl
      omega
    · have ec : cutV xs none (some (n : Int)) = xs.take n := by
        unfold cutV HT.sIx
        simp
        rw [if_neg (show ¬ ((n : Int) < 0) by omega)]
        congr 1
        omega
      rw [ec]
      exact q _ _ (e2.trans (Ex.new hp)) (.tup (wS_put ((k.ex e2).fresh hp) upd_same) (DqAll.same (ws_ex (Ex.new hp)) _ _ (dq_take n hd)) (by rw [List.length_take]; omega))
theorem dq_app {H : Hp} : ∀ {vs ws : List V} {ds es : List PyData}, DqAll H vs ds → DqAll H ws es → DqAll H (vs ++ ws) (ds ++ es)
  | _, _, _, _, .nil, h => h
  | _, _, _, _, .cons h t, h2 => .cons h (dq_app t h2)
theorem ew_catT {es : List PyData} (h1 : EW S ta σ H (.tuple ds)) (h2 : EW S tb σ H (.tuple es)) (n1 : ds ≠ []) (n2 : es ≠ []) (hz : ds.length + es.length ≤ 1000) : EW S (tOp (rCatT K) ta tb) σ H (.tuple (ds ++ es)) := fun H1 k Q q =>
  h1 H1 k _ fun v H2 e2 p2 => h2 H2 (k.ex e2) _ fun u H3 e3 p3 => by
    obtain ⟨a, xs, rfl, ha, hd, _, hl⟩ := (Dq.same (ws_ex e3) _ _ p2).tupE rfl
    obtain ⟨b, ys, rfl, hb, hd2, _, hl2⟩ := p3.tupE rfl
    have hl : xs.length = ds.length := hl
    have hl2 : ys.length = es.length := hl2
    refine ⟨a, b, xs, ys, rfl, rfl, st_of (wS_get ha).2, st_of (wS_get hb).2, fun e => n1 (List.eq_nil_of_length_eq_zero (by rw [← hl, e]; rfl)), Evl.sz_of (by omega), fun e => absurd (List.eq_nil_of_length_eq_zero (by rw [← hl2, e]; rfl)) n2, fun _ p hp => ?_⟩
    have k3 := (k.ex e2).ex e3
    exact q _ _ ((e2.trans e3).trans (Ex.new hp)) (.tup (wS_put (k3.fresh hp) upd_same) (DqAll.same (ws_ex (Ex.new hp)) _ _ (dq_app hd hd2)) (by rw [List.length_append]; omega))
/-- list(t) -/
theorem ew_listT (h : EW S te σ H (.tuple ds)) (hz : ds.length ≤ 1000) : EW S (tCB (Evl.rListS K) (tCons te tNil)) σ H (.list ds) := fun H1 k Q q =>
  h H1 k _ fun v H2 e2 p2 => by
    obtain ⟨a, xs, rfl, ha, hd, _, hl⟩ := p2.tupE rfl
    have hl : xs.length = ds.length := hl
    exact ⟨a, xs, rfl, Or.inr (st_of (wS_get ha).2), fun p hp => q _ _ (e2.trans (Ex.new hp)) (.lst (wS_put ((k.ex e2).fresh hp) upd_same) (DqAll.same (ws_ex (Ex.new hp)) _ _ hd) (by omega))⟩
theorem tw_dat (h : EW S te σ H d) : EWT K S te σ H (.dat d) := h
theorem tw_tab {tbl : List (Key × PyData)} (h0 : EW S t0 σ H d0) (h1 : EW S t1 σ H d1) (h2 : EWB S t2 σ H tbl) (hr : EWA S tr σ H ds) (hn : ds.length ≤ 10) : EWT K S (tTup (tCons t0 (tCons t1 (tCons t2 tr)))) σ H (.tab d0 d1 tbl ds.length) := fun H1 k Q q =>
  h0 H1 k _ fun x0 H2 e2 p2 => h1 H2 (k.ex e2) _ fun x1 H3 e3 p3 => h2 H3 ((k.ex e2).ex e3) _ fun x2 H4 e4 ⟨b, eb, p4⟩ => hr H4 (((k.ex e2).ex e3).ex e4) _ fun rest H5 e5 p5 => by
    subst eb
    have k5 := (((k.ex e2).ex e3).ex e4).ex e5
    refine ⟨by show rest.length + 1 + 1 + 1 ≤ sizeLine; rw [p5.len]; exact Evl.sz_of (by omega), fun p hp => ?_⟩
    refine q _ _ ((((e2.trans e3).trans e4).trans e5).trans (Ex.new hp)) ⟨p, b, x0, x1, rest, rfl, wS_put (k5.fresh hp) upd_same, Dq.same (ws_ex (((e3.trans e4).trans e5).trans (Ex.new hp))) _ _ p2, Dq.same (ws_ex ((e4.trans e5).trans (Ex.new hp))) _ _ p3, p4.ex (ws_ex (e5.trans (Ex.new hp))), p5.len⟩
theorem ea_nilT : EWTA K S tNil σ H [] := fun H1 k Q q => q [] H1 (Ex.refl H1) .nil
theorem ea_consT (h : EWT K S te σ H t) (hr : EWTA K S tr σ H ts) : EWTA K S (tCons te tr) σ H (t :: ts) := fun H1 k Q q =>
  h H1 k _ fun v H2 e2 p2 => hr H2 (k.ex e2) _ fun vs H3 e3 p3 => q _ H3 (e2.trans e3) (.cons (p2.ex (ws_ex e3)) p3)
theorem el_lstT (h : EWTA K S tr σ H ts) (hn : ts.length ≤ 1000) : EWL K S (tLst tr) σ H ts := fun H1 k Q q =>
  h H1 k _ fun vs H2 e2 p2 => ⟨by rw [p2.length]; exact Evl.sz_of (by omega), fun p hp => q _ _ (e2.trans (Ex.new hp)) ⟨p, vs, rfl, wS_put ((k.ex e2).fresh hp) upd_same, each_th (ws_ex (Ex.new hp)) p2⟩⟩
theorem each_appT {vs ws : List V} (h1 : EachIs (ThR K H) vs ts) (h2 : EachIs (ThR K H) ws us) : EachIs (ThR K H) (vs ++ ws) (ts ++ us) := by
  induction h1 with
  | nil => exact h2
  | cons r t ih => exact .cons r ih
/-- a list and another one: a new one -/
theorem el_catT (h1 : EWL K S ta σ H ts) (h2 : EWL K S tb σ H us) (hz : ts.length + us.length ≤ 1000) : EWL K S (tOp rCat ta tb) σ H (ts ++ us) := fun H1 k Q q =>
  h1 H1 k _ fun v H2 e2 ⟨p, vs, ev, hp, pv⟩ => h2 H2 (k.ex e2) _ fun u H3 e3 ⟨r, ws, eu, hr, pw⟩ => by
    subst ev
    subst eu
    have k3 := (k.ex e2).ex e3
    refine ⟨p, r, vs, ws, rfl, rfl, e3 _ _ (wS_get hp).2, (wS_get hr).2, by rw [pv.length, pw.length]; exact Evl.sz_of (by omega), fun x hx => ?_⟩
    exact q _ _ ((e2.trans e3).trans (Ex.new hx)) ⟨x, _, rfl, wS_put (k3.fresh hx) upd_same, each_appT (each_th (ws_ex (e3.trans (Ex.new hx))) pv) (each_th (ws_ex (Ex.new hx)) pw)⟩
end
end KF

set_option Elab.async false
set_option linter.all false
set_option maxRecDepth 100000
set_option maxHeartbeats 8000000
namespace LF
open PySem PySem.Spec PyProof.Rows L2
theorem pe_callD0 {X : Cx} {x : Str} {k : Nat} {f : Addr} {fd : FuncData} {sp : Sp} {p pos : Pos} (D : DefAt X.prog X.w X.K X.mg X.base x k f fd [] sp) (hr : Room k X.A) (hg : Gl X x := by rfl) (hdb : (x == ("__debug__" : Str)) = false := by decide) :
    PE X (.Call (.Name x p) [] [] pos) (tCall sp [] E0 tNil) := pe_call0 D.F hr hg D.g D.kp D.b .nil pass0 hdb
end LF
namespace KF
open PySem PySem.Spec PyProof.Rows L2 LF
open Evl (Ev EvL EvU EvT EvA Ex sq_of st_of)
open PySem.W (EachIs)
mutual
theorem Dq.move {H H' : Hp} (s : ∀ a xs, (H a = some (.lst xs) → H' a = some (.lst xs)) ∧ (H a = some (.tup xs) → H' a = some (.tup xs))) : ∀ (d : PyData) (v : V), Dq H v d → Dq H' v d
  | .none, _, h => by cases h; exact .non
  | .bool _, _, h => by cases h; exact .bl _
  | .int _, _, h => by cases h; exact .int _
  | .str _, _, h => by cases h with | str _ h1 h2 => exact .str _ h1 h2
  | .list ds, _, h => by cases h with | lst h1 h2 h3 => exact .lst ((s _ _).1 h1) (DqAll.move s ds _ h2) h3
  | .tuple ds, _, h => by cases h with | tup h1 h2 h3 => exact .tup ((s _ _).2 h1) (DqAll.move s ds _ h2) h3
  | .dict _, _, h => by cases h
theorem DqAll.move {H H' : Hp} (s : ∀ a xs, (H a = some (.lst xs) → H' a = some (.lst xs)) ∧ (H a = some (.tup xs) → H' a = some (.tup xs))) : ∀ (ds : List PyData) (vs : List V), DqAll H vs ds → DqAll H' vs ds
  | [], _, h => by cases h; exact .nil
  | d :: ds, _, h => by cases h with | cons h1 h2 => exact .cons (Dq.move s d _ h1) (DqAll.move s ds _ h2)
end
theorem each_move {H H' : Hp} (s : ∀ a xs, (H a = some (.lst xs) → H' a = some (.lst xs)) ∧ (H a = some (.tup xs) → H' a = some (.tup xs))) {kvs : List (Key × V)} {tb : List (Key × PyData)} (h : EachIs (fun kv p => kv.1 = p.1 ∧ Dq H kv.2 p.2) kvs tb) : EachIs (fun kv p => kv.1 = p.1 ∧ Dq H' kv.2 p.2) kvs tb :=
  h.mono fun _ _ r => ⟨r.1, Dq.move s _ _ r.2⟩
theorem merge_app : ∀ {b a : List (Key × V)}, ((a ++ b).map (·.1)).Nodup → mergeK a b = a ++ b
  | [], a, _ => (List.append_nil a).symm
  | p :: b, a, nd => by
    have hno : valV a p.1 = none := val_out fun h => by
      rw [List.map_append, List.map_cons, List.nodup_append] at nd
      exact nd.2.2 p.1 h p.1 List.mem_cons_self rfl
    show mergeK (putK a p.1 p.2) b = _
    rw [putK_new _ hno, merge_app (by rw [List.append_assoc]; exact nd), List.append_assoc]; rfl
theorem merge_nil {b : List (Key × V)} (nd : (b.map (·.1)).Nodup) : mergeK [] b = b := merge_app (a := []) nd
/-! a table with a key more, or one less -/
def putP (tb : List (Key × PyData)) (k : Key) (d : PyData) : List (Key × PyData) := if (tb.any fun p => decide (p.1 = k)) = true then tb.map (fun p => if p.1 = k then (p.1, d) else p) else tb ++ [(k, d)]
def dropP (tb : List (Key × PyData)) (k : Key) : List (Key × PyData) := tb.filter fun p => decide (p.1 ≠ k)
theorem each_any {H : Hp} {k : Key} : ∀ {kvs : List (Key × V)} {tb : List (Key × PyData)}, EachIs (fun kv p => kv.1 = p.1 ∧ Dq H kv.2 p.2) kvs tb → (kvs.any fun kv => decide (kv.1 = k)) = tb.any fun p => decide (p.1 = k)
  | _, _, .nil => rfl
  | _, _, .cons h t => by rw [List.any_cons, List.any_cons, h.1, each_any t]
theorem each_repl {H : Hp} {k : Key} {v : V} {d : PyData} (hd : Dq H v d) : ∀ {kvs : List (Key × V)} {tb : List (Key × PyData)}, EachIs (fun kv p => kv.1 = p.1 ∧ Dq H kv.2 p.2) kvs tb → EachIs (fun kv p => kv.1 = p.1 ∧ Dq H kv.2 p.2) (kvs.map fun kv => if kv.1 = k then (kv.1, v) else kv) (tb.map fun p => if p.1 = k then (p.1, d) else p)
  | _, _, .nil => .nil
  | a :: as, b :: bs, .cons r t => by
    rw [List.map_cons, List.map_cons]
    refine .cons ?_ (each_repl hd t)
    by_cases e : b.1 = k
    · rw [if_pos e, if_pos (r.1.trans e)]; exact ⟨r.1, hd⟩
    · rw [if_neg e, if_neg (fun z => e (r.1.symm.trans z))]; exact r
theorem each_snoc {H : Hp} {k : Key} {v : V} {d : PyData} (hd : Dq H v d) : ∀ {kvs : List (Key × V)} {tb : List (Key × PyData)}, EachIs (fun kv p => kv.1 = p.1 ∧ Dq H kv.2 p.2) kvs tb → EachIs (fun kv p => kv.1 = p.1 ∧ Dq H kv.2 p.2) (kvs ++ [(k, v)]) (tb ++ [(k, d)])
  | _, _, .nil => .cons ⟨rfl, hd⟩ .nil
  | _, _, .cons r t => .cons r (each_snoc hd t)
theorem each_put {H : Hp} {k : Key} {v : V} {d : PyData} {kvs : List (Key × V)} {tb : List (Key × PyData)} (h : EachIs (fun kv p => kv.1 = p.1 ∧ Dq H kv.2 p.2) kvs tb) (hd : Dq H v d) : EachIs (fun kv p => kv.1 = p.1 ∧ Dq H kv.2 p.2) (putK kvs k v) (putP tb k d) := by
  unfold putK putP
  rw [each_any h]
  split
  · exact each_repl hd h
  · exact each_snoc hd h
theorem each_drop {H : Hp} {k : Key} : ∀ {kvs : List (Key × V)} {tb : List (Key × PyData)}, EachIs (fun kv p => kv.1 = p.1 ∧ Dq H kv.2 p.2) kvs tb → EachIs (fun kv p => kv.1 = p.1 ∧ Dq H kv.2 p.2) (dropK kvs k) (dropP tb k)
  | _, _, .nil => .nil
  | kv :: kvs, p :: tb, .cons h t => by
    unfold dropK dropP
    rw [List.filter_cons, List.filter_cons, h.1]
    split
    · exact .cons h (each_drop t)
    · exact each_drop t
def EWP (S : Addr → Prop) (trs : List (TE × TE)) (σ : L2.St) (H : Hp) (tb : List (Key × PyData)) : Prop := ∀ H1, Kp S H H1 → ∀ Q : List (V × V) → Hp → Prop, (∀ (kvs : List (Key × V)) H2, Ex H1 H2 → EachIs (fun kv p => kv.1 = p.1 ∧ Dq (wS S H2) kv.2 p.2) kvs tb → Q (kvs.map fun kv => (kV kv.1, kv.2)) H2) → tPairs trs σ H1 Q
section
variable {K : PySem.W.Frag} {S : Addr → Prop} {σ : L2.St} {H : Hp} {te ta tb' t0 t1 t2 : TE} {tr : TA} {v : V} {d d0 d1 : PyData} {ds : List PyData} {ts us : List Th} {t : Th} {D : Ends} {tz : TS} {trs : List (TE × TE)} {tb : List (Key × PyData)}
theorem ewp_nil : EWP S [] σ H [] := fun H1 k Q q => q [] H1 (Ex.refl H1) .nil
theorem ewp_cons {z : Str} (h : EW S te σ H d) (hr : EWP S trs σ H tb) : EWP S ((tC (.str z), te) :: trs) σ H ((.inr z, d) :: tb) := fun H1 k Q q =>
  h H1 k _ fun v H2 e2 p2 => hr H2 (k.ex e2) _ fun kvs H3 e3 p3 => q ((.inr z, v) :: kvs) H3 (e2.trans e3) (.cons ⟨rfl, Dq.same (ws_ex e3) _ _ p2⟩ p3)
theorem eb_disp (h : EWP S trs σ H tb) (hn : tb.length ≤ 15) (nd : (tb.map (·.1)).Nodup) : EWB S (tDisp trs) σ H tb := fun H1 k Q q p hp => by
  have k1 : Kp S H (upd H1 p (.dK [])) := k.ex (Ex.new hp)
  refine h _ k1 _ fun kvs H2 e2 p2 => ?_
  have h2 : H2 p = some (.dK []) := e2 _ _ upd_same
  refine ⟨h2, kvs, rfl, by rw [p2.length]; exact hn, ?_⟩
  have hk := each_keys p2
  rw [merge_nil (by rw [hk]; exact nd)]
  have nS : ¬ S p := k.fresh hp
  refine q _ _ (Ex.mut ((Ex.new hp).trans e2) hp) ⟨p, rfl, kvs, wS_put nS upd_same, each_move (fun a xs => ⟨fun ha => ?_, fun ha => ?_⟩) p2⟩
  · have := wS_get ha
    have na : a ≠ p := fun e => by rw [e, h2] at this; cases this.2
    exact wS_put this.1 (by rw [upd_ne na]; exact this.2)
  · have := wS_get ha
    have na : a ≠ p := fun e => by rw [e, h2] at this; cases this.2
    exact wS_put this.1 (by rw [upd_ne na]; exact this.2)
theorem eb_new : EWB S tDNewK σ H [] := fun H1 k Q q p hp => q _ _ (Ex.new hp) ⟨p, rfl, [], wS_put (k.fresh hp) upd_same, .nil⟩
theorem tw_new : EWT K S tDNewK σ H .opq := fun H1 k Q q p hp => q _ _ (Ex.new hp) ⟨_, .base (.dK (wS_put (k.fresh hp) upd_same)), kit_ty (by decide +kernel)⟩
theorem q_asgG {i : Nat} {P : V → Hp → Prop} (h : EG S te σ H P) (k : Kp S H H) (c : ∀ v H1, Ex H H1 → P v (wS S H1) → tz D (σ.set i (some v)) H1) : tSeq (tAsg te (gName i)) tz D σ H := h H k _ c
/-- x = a + b, the new list by its name -/
theorem q_catN {i : Nat} (h1 : EWL K S ta σ H ts) (h2 : EWL K S tb' σ H us) (hz : ts.length + us.length ≤ 1000) (k : Kp S H H) (c : ∀ p vs H1, Ex H H1 → H1 p = none → EachIs (ThR K (wS S H1)) vs (ts ++ us) → tz D (σ.set i (some (.ref p))) (upd H1 p (.lst vs))) : tSeq (tAsg (tOp rCat ta tb') (gName i)) tz D σ H :=
  h1 H k _ fun v H2 e2 ⟨p, vs, ev, hp, pv⟩ => h2 H2 (k.ex e2) _ fun u H3 e3 ⟨r, ws, eu, hr, pw⟩ => by
    subst ev
    subst eu
    exact ⟨p, r, vs, ws, rfl, rfl, e3 _ _ (wS_get hp).2, (wS_get hr).2, by rw [pv.length, pw.length]; exact Evl.sz_of (by omega), fun x hx => c x _ H3 (e2.trans e3) hx (each_appT (each_th (ws_ex e3) pv) pw)⟩
theorem q_lstN {i : Nat} (h : EWTA K S tr σ H ts) (hn : ts.length ≤ 1000) (k : Kp S H H) (c : ∀ p vs H1, Ex H H1 → H1 p = none → EachIs (ThR K (wS S H1)) vs ts → tz D (σ.set i (some (.ref p))) (upd H1 p (.lst vs))) : tSeq (tAsg (tLst tr) (gName i)) tz D σ H :=
  h H k _ fun vs H2 e2 p2 => ⟨by rw [p2.length]; exact Evl.sz_of (by omega), fun p hp => c p vs H2 e2 hp p2⟩
/-- a list that grows: its address is in S -/
structure Fnd (K : PySem.W.Frag) (S : Addr → Prop) (H : Hp) (p : Addr) (ts : List Th) : Prop where
  s : S p
  k : Kp S H H
  l : ∃ vs, H p = some (.lst vs) ∧ EachIs (ThR K (wS S H)) vs ts
theorem Fnd.ex {H' : Hp} {p : Addr} (f : Fnd K S H p ts) (e : Ex H H') : Fnd K S H' p ts := by
  obtain ⟨h1, h2, vs, h3, h4⟩ := f
  exact ⟨h1, ⟨fun _ _ _ h => h, (h2.ex e).s⟩, vs, e _ _ h3, each_th (ws_ex e) h4⟩
/-- S and one address more -/
abbrev sU (S : Addr → Prop) (p : Addr) : Addr → Prop := fun a => S a ∨ a = p
theorem sU_ex {H1 : Hp} {p : Addr} {o : HO} (hp : H1 p = none) : Ex (wS S H1) (wS (sU S p) (upd H1 p o)) := fun a x h => by
  obtain ⟨n, h⟩ := wS_get h
  have na : a ≠ p := ne_of_none h hp
  exact wS_put (fun z => z.elim n na) (by rw [upd_ne na]; exact h)
theorem sU_sub {p : Addr} : Ex (wS (sU S p) H) (wS S H) := fun a x h => let ⟨n, h⟩ := wS_get h; wS_put (fun s => n (Or.inl s)) h
theorem Fnd.new {H1 : Hp} {p : Addr} {vs : List V} (k : Kp S H1 H1) (hp : H1 p = none) (h : EachIs (ThR K (wS S H1)) vs ts) : Fnd K (sU S p) (upd H1 p (.lst vs)) p ts :=
  ⟨Or.inr rfl, ⟨fun _ _ _ h => h, fun a ha => by
    by_cases na : a = p
    · rw [na, upd_same]; intro z; cases z
    · rw [upd_ne na]; exact k.s a (ha.resolve_right na)⟩, vs, upd_same, each_th (sU_ex hp) h⟩
theorem s_appF {i : Nat} {p : Addr} (f : Fnd K S H p ts) (hl : ts.length ≤ 1000) (hi : σ[i]? = some (some (.ref p))) (h : EWT K S te σ H t) (c : ∀ H1, (∀ a o, a ≠ p → H a = some o → H1 a = some o) → Fnd K S H1 p (ts ++ [t]) → D.nx σ H1) :
    tDrop (tBM K "list" rAppend (tVar i) (tCons te tNil)) D σ H := by
  obtain ⟨vs, hp, hE⟩ := f.l
  refine ⟨_, hi, Or.inl ⟨rfl, _, sq_of hp⟩, h H f.k _ fun v H2 e2 p2 => ⟨p, vs, v, rfl, rfl, e2 _ _ hp, by rw [hE.length]; exact Evl.sz_lt (by omega), ?_⟩⟩
  have k2 := f.k.ex e2
  have em : Ex (wS S H2) (wS S (upd H2 p (.lst (vs ++ [v])))) := fun a o h => by
    obtain ⟨n, h⟩ := wS_get h
    exact wS_put n (by rw [upd_ne (fun z => n (by rw [z]; exact f.s))]; exact h)
  refine c _ (fun a o n h => ?_) ⟨f.s, ⟨fun _ _ _ h => h, fun a ha => ?_⟩, _, upd_same, each_appT (each_th em (each_th (ws_ex e2) hE)) (.cons (p2.ex em) .nil)⟩
  · rw [upd_ne n]; exact e2 _ _ h
  · by_cases na : a = p
    · rw [na, upd_same]; intro z; cases z
    · rw [upd_ne na]; exact k2.s a ha
theorem q_appF {i : Nat} {p : Addr} (f : Fnd K S H p ts) (hl : ts.length ≤ 1000) (hi : σ[i]? = some (some (.ref p))) (h : EWT K S te σ H t) (c : ∀ H1, (∀ a o, a ≠ p → H a = some o → H1 a = some o) → Fnd K S H1 p (ts ++ [t]) → tz D σ H1) :
    tSeq (tDrop (tBM K "list" rAppend (tVar i) (tCons te tNil))) tz D σ H := s_appF (D := { D with nx := tz D }) f hl hi h c
/-- found + a list -/
theorem s_retF {i : Nat} {p : Addr} (f : Fnd K S H p ts) (hi : σ[i]? = some (some (.ref p))) (h : EWL K S ta σ H us) (hz : ts.length + us.length ≤ 1000) (c : ∀ x vs H1, Ex H H1 → H1 x = none → EachIs (ThR K (wS S H1)) vs (ts ++ us) → D.rt (.ref x) (upd H1 x (.lst vs))) : tRet (tOp rCat (tVar i) ta) D σ H := by
  obtain ⟨vs, hp, hE⟩ := f.l
  refine ⟨_, hi, h H f.k _ fun u H2 e2 ⟨r, ws, eu, hr, pw⟩ => ?_⟩
  subst eu
  exact ⟨p, r, vs, ws, rfl, rfl, e2 _ _ hp, (wS_get hr).2, by rw [hE.length, pw.length]; exact Evl.sz_of (by omega), fun x hx => c x _ H2 e2 hx (each_appT (each_th (ws_ex e2) hE) pw)⟩
end
theorem Kp.self {S : Addr → Prop} {H H1 : Hp} (k : Kp S H H1) : Kp S H1 H1 := ⟨fun _ _ _ h => h, k.s⟩
theorem ap_ex {S : Addr → Prop} {H H1 : Hp} {p : Addr} (s : S p) (m : ∀ a o, a ≠ p → H a = some o → H1 a = some o) : Ex (wS S H) (wS S H1) := fun a o h => by
  obtain ⟨n, h⟩ := wS_get h
  exact wS_put n (m a o (fun z => n (by rw [z]; exact s)) h)
theorem el_varT {K : PySem.W.Frag} {S : Addr → Prop} {σ : L2.St} {H : Hp} {i : Nat} {p : Addr} {vs : List V} {ts : List Th} (hi : σ[i]? = some (some (.ref p))) (hp : wS S H p = some (.lst vs)) (h : EachIs (ThR K (wS S H)) vs ts) : EWL K S (tVar i) σ H ts := fun H1 k Q q =>
  ⟨_, hi, q _ H1 (Ex.refl H1) ⟨p, vs, rfl, k.ws _ _ hp, each_th k.ws h⟩⟩
theorem tw_opq {K : PySem.W.Frag} {S : Addr → Prop} {σ : L2.St} {H : Hp} {i : Nat} {v : V} (hi : σ[i]? = some (some v)) (h : ∃ t, TyX K (wS S H) v t ∧ PySem.W.kitOne K t (.type "tuple") = some false) : EWT K S (tVar i) σ H .opq := fun H1 k Q q =>
  ⟨_, hi, q _ H1 (Ex.refl H1) (let ⟨t, h1, h2⟩ := h; ⟨t, TyX.same h1 k.ws, h2⟩)⟩
def keysD (tb : List (Key × PyData)) : List PyData := (tkeys tb).map .str
theorem dq_strs : ∀ {H : Hp} {l : List Str}, (∀ z ∈ l, z.length ≤ 1000 ∧ PyData.strOk z = true) → DqAll H (l.map V.str) (l.map .str)
  | _, [], _ => .nil
  | _, z :: l, h => .cons (.str z (h z List.mem_cons_self).1 (h z List.mem_cons_self).2) (dq_strs fun y hy => h y (List.mem_cons_of_mem _ hy))
/-- list(d), d a table whose keys are texts -/
theorem ew_keys {S : Addr → Prop} {σ : L2.St} {H : Hp} {i : Nat} {b : Addr} {tb : List (Key × PyData)} (hi : σ[i]? = some (some (.ref b))) (hd : TabA (wS S H) b tb) (hk : ((tb.map (·.1)).all isInr && (tkeys tb).all (fun z => decide (z.length ≤ 1000) && PyData.strOk z) && decide ((tkeys tb).length ≤ 1000)) = true) : EW S (tCB rListD (tCons (tVar i) tNil)) σ H (.list (keysD tb)) := fun H1 k Q q => by
  rw [Bool.and_eq_true, Bool.and_eq_true] at hk
  obtain ⟨kvs, h1, h2⟩ := hd.ex k.ws
  have hks := (each_keys h2).trans (keys_inr hk.1.1)
  have hm : kvs.map (fun kv => kV kv.1) = (tkeys tb).map V.str := by
    have := congrArg (List.map kV) hks
    rw [List.map_map, List.map_map] at this
    exact this
  refine ⟨_, hi, b, kvs, rfl, Or.inl (wS_get h1).2, fun p hp => ?_⟩
  rw [hm]
  refine q _ _ (Ex.new hp) (.lst (wS_put (k.fresh hp) upd_same) (dq_strs fun z hz => ?_) (by rw [List.length_map]; exact of_decide_eq_true hk.2))
  have := List.all_eq_true.mp hk.1.2 z hz
  rw [Bool.and_eq_true, decide_eq_true_eq] at this
  exact this
/-! functions without arguments that give new data -/
abbrev sH (H : Hp) : Addr → Prop := fun a => H a ≠ none
def spNewD (d : PyData) : Sp := fun vs H Q _ => vs = [] ∧ ∀ v H', Ex H H' → Dq (wS (sH H) H') v d → Q v H'
def spNewB (tb : List (Key × PyData)) : Sp := fun vs H Q _ => vs = [] ∧ ∀ b H', Ex H H' → TabA (wS (sH H) H') b tb → Q (.ref b) H'
def spNewL (K : PySem.W.Frag) (ts : List Th) : Sp := fun vs H Q _ => vs = [] ∧ ∀ p vs' H', Ex H H' → (wS (sH H) H') p = some (.lst vs') → EachIs (ThR K (wS (sH H) H')) vs' ts → Q (.ref p) H'
section
variable {K : PySem.W.Frag} {S : Addr → Prop} {σ : L2.St} {H H1 H2 : Hp} {d : PyData} {tb : List (Key × PyData)} {ts : List Th} {E : XK}
theorem sH_ex (k : Kp S H H1) : Ex (wS (sH H1) H2) (wS S H2) := fun a o h => let ⟨n, h⟩ := wS_get h; wS_put (fun s => n (k.s a s)) h
theorem ew_call0 : EW S (tCall (spNewD d) [] E tNil) σ H d := fun H1 k Q q => ⟨rfl, fun v H2 e p => q v H2 e (Dq.same (sH_ex k) _ _ p)⟩
theorem eb_call0 : EWB S (tCall (spNewB tb) [] E tNil) σ H tb := fun H1 k Q q => ⟨rfl, fun b H2 e p => q _ H2 e ⟨b, rfl, p.ex (sH_ex k)⟩⟩
theorem el_call0 : EWL K S (tCall (spNewL K ts) [] E tNil) σ H ts := fun H1 k Q q => ⟨rfl, fun p vs H2 e hp hE => q _ H2 e ⟨p, vs, rfl, sH_ex k _ _ hp, each_th (sH_ex k) hE⟩⟩
theorem kp0 : Kp (sH H) H H := ⟨fun _ _ _ h => h, fun _ h => h⟩
end
end KF

set_option Elab.async false
set_option linter.all false
set_option maxRecDepth 100000
set_option maxHeartbeats 16000000
namespace KF
open PySem PySem.Spec PyProof.Rows L2 LF
open Evl (Ev EvL EvU EvT EvA Ex sq_of st_of)
open PySem.W (EachIs)
def fact1 : PyData := (.tuple [(.str "d"), (.tuple [(.str ""), (.str "d")])])
def fact2 : PyData := (.tuple [(.str "b/c"), (.tuple [(.str ""), (.str "b"), (.str "d")])])
def fact3 : PyData := (.tuple [(.str "a"), (.tuple [(.str ""), (.str "d")])])
def factsL : List PyData := [fact1, fact2, fact3]
def tableT : List (Key × PyData) := [(.inr "b/c", (.tuple [(.str "d"), (.str "b/c")])), (.inr "d", (.tuple [(.str "d")])), (.inr "a", (.tuple [(.str "a"), (.str "d"), (.str "b/c")])), (.inr "h", (.tuple [(.str "h")]))]
def farT : List (Key × PyData) := [(.inr "b/c", (.tuple [(.str "a"), (.str "d"), (.str "zz"), (.str "b/c")])), (.inr "d", (.tuple [(.str "d"), (.str "zz")])), (.inr "a", (.tuple [(.str "a"), (.str "d"), (.str "zz"), (.str "b/c")])), (.inr "h", (.tuple [(.str "h"), (.str "zz/a/b")]))]
def downL : List PyData := [(.str ""), (.str "d"), (.str "d/f")]
abbrev s__law_facts : Stmt := topS 56
abbrev N__law_facts : List Str := []
theorem sc__law_facts : FnScope [] [] (defScope s__law_facts) := ⟨rfl, rfl, rfl, by decide +kernel, rfl, by decide +kernel, by decide +kernel⟩
abbrev s__law_table : Stmt := topS 57
abbrev N__law_table : List Str := []
theorem sc__law_table : FnScope [] [] (defScope s__law_table) := ⟨rfl, rfl, rfl, by decide +kernel, rfl, by decide +kernel, by decide +kernel⟩
abbrev s__law_right_papers : Stmt := topS 58
abbrev N__law_right_papers : List Str := ["_law_facts_here", "_law_table_here", "_law_down", "_law_found", "_law_far"]
theorem sc__law_right_papers : FnScope ["_law_facts_here", "_law_table_here", "_law_down", "_law_found", "_law_far"] [] (defScope s__law_right_papers) := ⟨rfl, rfl, rfl, by decide +kernel, rfl, by decide +kernel, by decide +kernel⟩
abbrev s__law_wrong_shown : Stmt := topS 59
abbrev N__law_wrong_shown : List Str := ["_law_one", "_law_two", "_law_three", "_law_down", "_law_found"]
theorem sc__law_wrong_shown : FnScope ["_law_one", "_law_two", "_law_three", "_law_down", "_law_found"] [] (defScope s__law_wrong_shown) := ⟨rfl, rfl, rfl, by decide +kernel, rfl, by decide +kernel, by decide +kernel⟩
def right1 : List Th := [(.dat (.tuple [(.str "shown"), (.str "a/f"), (.tuple (factsL.take 2)), (.tuple downL), (.str "p")])), (.dat (.tuple [(.str "shown"), (.str "a/e/f"), (.tuple factsL), (.tuple [(.str ""), (.str "d"), (.str "d"), (.str "d/f")]), (.str "p")]))]
def right2 : List Th := [(.dat (.tuple [(.str "shown"), (.str "b"), (.tuple []), (.tuple [(.str ""), (.str "b")]), (.str "q")])), (.dat (.tuple [(.str "shown"), (.str "a"), (.tuple (factsL.take 2)), (.tuple [(.str ""), (.str "d")]), (.str "p")]))]
def right3 : List Th := [(.dat (.tuple [(.str "shown"), (.str "d"), (.tuple []), (.tuple [(.str ""), (.str "d")]), (.str "p")])), (.dat (.tuple [(.str "shown"), (.str "d"), (.tuple []), (.tuple [(.str ""), (.str "d")]), (.str "q")]))]
def rightA1 : Th := (.dat (.tuple [(.str "shown"), (.str "d/e/g"), (.tuple factsL), (.tuple [(.str ""), (.str "d"), (.str "d"), (.str "d/g")]), (.str "q")]))
def rightA2 : Th := (.dat (.tuple [(.str "shown"), (.str ""), (.tuple (factsL.take 1 ++ factsL.take 1)), (.tuple [(.str "")]), .none]))
def rightZ : List Th := [(.tab (.str "absent") (.str "h") tableT 0), (.tab (.str "absent") (.str "a/h") tableT 0), (.tab (.str "absent") (.str "d/f/f") farT 0), (.tab (.str "absent") (.str "zzz") farT 0)]
def rightT : List Th := ((((right1 ++ right2) ++ right3) ++ [rightA1]) ++ [rightA2]) ++ rightZ
def wrong1 : List Th := [(.dat (.tuple [(.str "shown"), (.str "a/f"), (.tuple [fact2, fact1]), (.tuple downL), (.str "p")])), (.dat (.tuple [(.str "shown"), (.str "a/f"), (.tuple [fact2]), (.tuple downL), (.str "p")]))]
def wrong2 : List Th := [(.dat (.tuple [(.str "shown"), (.str "a/f"), (.tuple [fact1]), (.tuple downL), (.str "p")])), (.dat (.tuple [(.str "shown"), (.str "a/f"), (.tuple [fact1, fact2]), (.tuple downL), (.str "q")]))]
def wrong3 : List Th := [(.dat (.tuple [(.str "shown"), (.str "a/f"), (.tuple [fact1, fact2]), (.tuple downL), .none])), (.dat (.tuple [(.str "shown"), (.str "a"), (.tuple [fact1, fact2]), (.tuple [(.str ""), (.str "b/c")]), (.str "q")]))]
def wrong4 : List Th := [(.dat (.tuple [(.str "shown"), (.str "a"), (.tuple [fact1, fact2]), (.tuple [(.str ""), (.str "a")]), (.str "p")])), (.dat (.tuple [(.str "shown"), (.str "h"), (.tuple [(.tuple [(.str "h"), (.tuple [(.str ""), (.str "h")])])]), (.tuple [(.str ""), (.str "h")]), (.str "q")]))]
def wrong5 : List Th := [(.dat (.tuple [(.str "shown"), (.str "a/f"), (.list [fact1, fact2]), (.tuple downL), (.str "p")])), (.dat (.tuple [(.str "shown"), (.str "a/f"), (.tuple [fact1, fact2]), (.list downL), (.str "p")]))]
def wrong6 : List Th := [(.dat (.tuple [(.str "shown"), (.str ""), (.tuple []), (.tuple [(.str "")]), (.str "p")])), (.dat (.tuple [(.str "shown"), (.str "d"), (.tuple []), (.tuple [(.str ""), (.str "d")]), (.str "r")]))]
def wrong7 : List Th := [(.dat (.tuple [(.str "shown"), (.str "d"), (.tuple []), (.tuple [(.str ""), (.str "d")]), (.list [(.str "p")])])), (.dat (.tuple [(.str "shown"), (.str "d"), (.tuple []), (.tuple [(.str "d")]), (.str "p")]))]
def wrong8 : List Th := [(.dat (.tuple [(.str "shown"), (.str "d"), (.tuple []), (.tuple [(.str ""), (.str "d")])])), (.dat (.tuple [(.str "shown"), (.str "d"), (.tuple []), (.tuple [(.str ""), (.str "d"), (.str "d")]), (.str "p")]))]
def wrong9 : List Th := [(.dat (.list [(.str "shown"), (.str "d"), (.tuple []), (.tuple [(.str ""), (.str "d")]), (.str "p")])), (.dat (.tuple [(.str "Shown"), (.str "d"), (.tuple []), (.tuple [(.str ""), (.str "d")]), (.str "p")]))]
def wrongZ : List Th := [(.dat (.tuple [(.str "shown"), (.str "d"), (.tuple [fact3]), (.tuple [(.str ""), (.str "d")]), (.str "p")])), (.dat (.tuple [(.str "shown"), (.str "d"), (.tuple []), (.int 1), (.str "p")]))]
def wrongT : List Th := ((((((((wrong1 ++ wrong2) ++ wrong3) ++ wrong4) ++ wrong5) ++ wrong6) ++ wrong7) ++ wrong8) ++ wrong9) ++ wrongZ
section
variable {P : Program} {w : World} {K : PySem.W.Frag} {mg : Str → Option Value} {base : Heap} {tk1 tk2 : Tok}
theorem ok_lfacts {f : Addr} {fd : FuncData} (F : Fun K "_law_facts" "_law_facts" s__law_facts f fd) : FnOk P w K mg base CX0 1 f fd [] (spNewD (.tuple factsL)) := by
  refine F.ok sc__law_facts (fun vs H Q E h => by obtain ⟨rfl, _⟩ := h; rfl) (fun cdv A outer s H vs Q E hr h => ?_)
  refine ⟨_, (pss_one (ps_ret (pe_tup (pa_cons (pe_tup (pa_cons pe_str (pa_cons (pe_tup (pa_cons pe_str (pa_cons pe_str pa_nil))) pa_nil))) (pa_cons (pe_tup (pa_cons pe_str (pa_cons (pe_tup (pa_cons pe_str (pa_cons pe_str (pa_cons pe_str pa_nil)))) pa_nil))) (pa_cons (pe_tup (pa_cons pe_str (pa_cons (pe_tup (pa_cons pe_str (pa_cons pe_str pa_nil))) pa_nil))) pa_nil)))))), ?_⟩
  obtain ⟨rfl, hq⟩ := h
  exact (show EW (sH H) _ _ H (.tuple factsL) from (ew_tup (ewa_cons (ew_tup (ewa_cons (ew_str "d" (by decide +kernel)) (ewa_cons (ew_tup (ewa_cons (ew_str "" (by decide +kernel)) (ewa_cons (ew_str "d" (by decide +kernel)) ewa_nil)) (by decide)) ewa_nil)) (by decide)) (ewa_cons (ew_tup (ewa_cons (ew_str "b/c" (by decide +kernel)) (ewa_cons (ew_tup (ewa_cons (ew_str "" (by decide +kernel)) (ewa_cons (ew_str "b" (by decide +kernel)) (ewa_cons (ew_str "d" (by decide +kernel)) ewa_nil))) (by decide)) ewa_nil)) (by decide)) (ewa_cons (ew_tup (ewa_cons (ew_str "a" (by decide +kernel)) (ewa_cons (ew_tup (ewa_cons (ew_str "" (by decide +kernel)) (ewa_cons (ew_str "d" (by decide +kernel)) ewa_nil)) (by decide)) ewa_nil)) (by decide)) ewa_nil))) (by decide))) H kp0 Q fun v H2 e p => hq v H2 e p
theorem ok_ltable {f : Addr} {fd : FuncData} (F : Fun K "_law_table" "_law_table" s__law_table f fd) : FnOk P w K mg base CX0 1 f fd [] (spNewB tableT) := by
  refine F.ok sc__law_table (fun vs H Q E h => by obtain ⟨rfl, _⟩ := h; rfl) (fun cdv A outer s H vs Q E hr h => ?_)
  refine ⟨_, (pss_one (ps_ret (pe_disp (pps_cons pe_str (pe_tup (pa_cons pe_str (pa_cons pe_str pa_nil))) (pps_cons pe_str (pe_tup (pa_cons pe_str pa_nil)) (pps_cons pe_str (pe_tup (pa_cons pe_str (pa_cons pe_str (pa_cons pe_str pa_nil)))) (pps_cons pe_str (pe_tup (pa_cons pe_str pa_nil)) pps_nil)))) rfl rfl (fun h => nomatch h) (by decide)))), ?_⟩
  obtain ⟨rfl, hq⟩ := h
  refine (show EWB (sH H) _ _ H tableT from eb_disp (ewp_cons (ew_tup (ewa_cons (ew_str "d" (by decide +kernel)) (ewa_cons (ew_str "b/c" (by decide +kernel)) ewa_nil)) (by decide)) (ewp_cons (ew_tup (ewa_cons (ew_str "d" (by decide +kernel)) ewa_nil) (by decide)) (ewp_cons (ew_tup (ewa_cons (ew_str "a" (by decide +kernel)) (ewa_cons (ew_str "d" (by decide +kernel)) (ewa_cons (ew_str "b/c" (by decide +kernel)) ewa_nil))) (by decide)) (ewp_cons (ew_tup (ewa_cons (ew_str "h" (by decide +kernel)) ewa_nil) (by decide)) ewp_nil)))) (by decide) (by decide +kernel)) H kp0 Q fun v H2 e ⟨b, eb, p⟩ => ?_
  subst eb
  exact hq b H2 e p
theorem ok_lright {f f1 f2 : Addr} {fd fd1 fd2 : FuncData} (F : Fun K "_law_right_papers" "_law_right_papers" s__law_right_papers f fd) (d_law_facts : DefAt P w K mg base "_law_facts" 1 f1 fd1 [] (spNewD (.tuple factsL))) (d_law_table : DefAt P w K mg base "_law_table" 1 f2 fd2 [] (spNewB tableT)) : FnOk P w K mg base CX0 2 f fd [] (spNewL K rightT) := by
  refine F.ok sc__law_right_papers (fun vs H Q E h => by obtain ⟨rfl, _⟩ := h; rfl) (fun cdv A outer s H vs Q E hr h => ?_)
  refine ⟨_, (pss_cons (ps_par3 (i := 0) (j := 1) (l := 2) (by rfl) sc__law_right_papers.nd rfl rfl rfl (by decide) (by decide) (by decide) rfl rfl rfl (pa_cons (pe_callD0 d_law_facts (hr.mono (by decide))) (pa_cons (pe_callD0 d_law_table (hr.mono (by decide))) (pa_cons (pe_tup (pa_cons pe_str (pa_cons pe_str (pa_cons pe_str pa_nil)))) pa_nil))) (by rfl))
    (pss_cons (ps_set (i := 3) sc__law_right_papers.nd rfl (Or.inl rfl) (pe_lst (pa_cons (pe_tup (pa_cons pe_str (pa_cons pe_str (pa_cons (pe_slice sl_tup (pv 0) po_none (po_some pe_int)) (pa_cons (pv 2) (pa_cons pe_str pa_nil)))))) (pa_cons (pe_tup (pa_cons pe_str (pa_cons pe_str (pa_cons (pv 0) (pa_cons (pe_tup (pa_cons pe_str (pa_cons pe_str (pa_cons pe_str (pa_cons pe_str pa_nil))))) (pa_cons pe_str pa_nil)))))) pa_nil))))
    (pss_cons (ps_set (i := 3) sc__law_right_papers.nd rfl (Or.inl rfl) (pe_op op_cat (pv 3) (pe_lst (pa_cons (pe_tup (pa_cons pe_str (pa_cons pe_str (pa_cons (pe_tup pa_nil) (pa_cons (pe_tup (pa_cons pe_str (pa_cons pe_str pa_nil))) (pa_cons pe_str pa_nil)))))) (pa_cons (pe_tup (pa_cons pe_str (pa_cons pe_str (pa_cons (pe_slice sl_tup (pv 0) po_none (po_some pe_int)) (pa_cons (pe_tup (pa_cons pe_str (pa_cons pe_str pa_nil))) (pa_cons pe_str pa_nil)))))) pa_nil)))))
    (pss_cons (ps_set (i := 3) sc__law_right_papers.nd rfl (Or.inl rfl) (pe_op op_cat (pv 3) (pe_lst (pa_cons (pe_tup (pa_cons pe_str (pa_cons pe_str (pa_cons (pe_tup pa_nil) (pa_cons (pe_tup (pa_cons pe_str (pa_cons pe_str pa_nil))) (pa_cons pe_str pa_nil)))))) (pa_cons (pe_tup (pa_cons pe_str (pa_cons pe_str (pa_cons (pe_tup pa_nil) (pa_cons (pe_tup (pa_cons pe_str (pa_cons pe_str pa_nil))) (pa_cons pe_str pa_nil)))))) pa_nil)))))
    (pss_cons (ps_expr (pe_bm PySem.F.plainAttrs_list PySem.F.slot_list_append PySem.F.type_list_append mt_append (pv 3) (pa_cons (pe_tup (pa_cons pe_str (pa_cons pe_str (pa_cons (pv 0) (pa_cons (pe_tup (pa_cons pe_str (pa_cons pe_str (pa_cons pe_str (pa_cons pe_str pa_nil))))) (pa_cons pe_str pa_nil)))))) pa_nil)))
    (pss_cons (ps_expr (pe_bm PySem.F.plainAttrs_list PySem.F.slot_list_append PySem.F.type_list_append mt_append (pv 3) (pa_cons (pe_tup (pa_cons pe_str (pa_cons pe_str (pa_cons (pe_op op_catT (pe_slice sl_tup (pv 0) po_none (po_some pe_int)) (pe_slice sl_tup (pv 0) po_none (po_some pe_int))) (pa_cons (pe_tup (pa_cons pe_str pa_nil)) (pa_cons pe_non pa_nil)))))) pa_nil)))
    (pss_cons (ps_set (i := 4) sc__law_right_papers.nd rfl (Or.inl rfl) (pe_disp (pps_cons pe_str (pe_tup (pa_cons pe_str (pa_cons pe_str (pa_cons pe_str (pa_cons pe_str pa_nil))))) (pps_cons pe_str (pe_tup (pa_cons pe_str (pa_cons pe_str pa_nil))) (pps_cons pe_str (pe_tup (pa_cons pe_str (pa_cons pe_str (pa_cons pe_str (pa_cons pe_str pa_nil))))) (pps_cons pe_str (pe_tup (pa_cons pe_str (pa_cons pe_str pa_nil))) pps_nil)))) rfl rfl (fun h => nomatch h) (by decide)))
    (pss_one (ps_ret (pe_op op_cat (pv 3) (pe_lst (pa_cons (pe_tup (pa_cons pe_str (pa_cons pe_str (pa_cons (pv 1) pa_nil)))) (pa_cons (pe_tup (pa_cons pe_str (pa_cons pe_str (pa_cons (pv 1) pa_nil)))) (pa_cons (pe_tup (pa_cons pe_str (pa_cons pe_str (pa_cons (pv 4) pa_nil)))) (pa_cons (pe_tup (pa_cons pe_str (pa_cons pe_str (pa_cons (pv 4) pa_nil)))) pa_nil))))))))))))))), ?_⟩
  obtain ⟨rfl, hq⟩ := h
  refine (ew_call0 (S := sH H) (σ := [none,none,none,none,none]) (E := E0) (H := H) (d := .tuple factsL)) H kp0 _ fun v0 H1 e1 p0 => (eb_call0 (S := sH H) (σ := [none,none,none,none,none]) (E := E0) (H := H) (tb := tableT)) H1 (kp0.ex e1) _ fun v1 H2 e2 ⟨b1, eb, p1⟩ => (show EW (sH H) _ [none,none,none,none,none] H (.tuple downL) from (ew_tup (ewa_cons (ew_str "" (by decide +kernel)) (ewa_cons (ew_str "d" (by decide +kernel)) (ewa_cons (ew_str "d/f" (by decide +kernel)) ewa_nil))) (by decide))) H2 ((kp0.ex e1).ex e2) _ fun v2 H3 e3 p2 => ⟨_, _, _, rfl, ?_⟩
  subst eb
  have eH : Ex H H3 := (e1.trans e2).trans e3
  have k : Kp (sH H) H3 H3 := (((kp0.ex e1).ex e2).ex e3).self
  have h0 : Dq (wS (sH H) H3) v0 (.tuple factsL) := Dq.same (ws_ex (e2.trans e3)) _ _ p0
  have h1 : TabA (wS (sH H) H3) b1 tableT := p1.ex (ws_ex e3)
  have h2 : Dq (wS (sH H) H3) v2 (.tuple downL) := p2
  refine q_asgG (show EWL K (sH H) _ _ H3 right1 from el_lstT (ea_consT (tw_dat (ew_tup (ewa_cons (ew_str "shown" (by decide +kernel)) (ewa_cons (ew_str "a/f" (by decide +kernel)) (ewa_cons (ew_cut (K := K) (n := 2) (ew_var (i := 0) rfl h0) (by decide) (by decide)) (ewa_cons (ew_var (i := 2) rfl h2) (ewa_cons (ew_str "p" (by decide +kernel)) ewa_nil))))) (by decide))) (ea_consT (tw_dat (ew_tup (ewa_cons (ew_str "shown" (by decide +kernel)) (ewa_cons (ew_str "a/e/f" (by decide +kernel)) (ewa_cons (ew_var (i := 0) rfl h0) (ewa_cons (ew_tup (ewa_cons (ew_str "" (by decide +kernel)) (ewa_cons (ew_str "d" (by decide +kernel)) (ewa_cons (ew_str "d" (by decide +kernel)) (ewa_cons (ew_str "d/f" (by decide +kernel)) ewa_nil)))) (by decide)) (ewa_cons (ew_str "p" (by decide +kernel)) ewa_nil))))) (by decide))) ea_nilT)) (by decide)) k fun v3 H4 e4 ⟨p3, vs3, ev, h3, h3e⟩ => ?_
  subst ev
  replace eH := eH.trans e4
  replace h0 := Dq.same (ws_ex e4) _ _ h0
  replace h1 := h1.ex (ws_ex e4)
  replace h2 := Dq.same (ws_ex e4) _ _ h2
  replace k := (k.ex e4).self
  refine q_asgG (show EWL K (sH H) _ _ H4 (right1 ++ right2) from el_catT (el_varT (i := 3) rfl h3 h3e) (el_lstT (ea_consT (tw_dat (ew_tup (ewa_cons (ew_str "shown" (by decide +kernel)) (ewa_cons (ew_str "b" (by decide +kernel)) (ewa_cons (ew_tup ewa_nil (by decide)) (ewa_cons (ew_tup (ewa_cons (ew_str "" (by decide +kernel)) (ewa_cons (ew_str "b" (by decide +kernel)) ewa_nil)) (by decide)) (ewa_cons (ew_str "q" (by decide +kernel)) ewa_nil))))) (by decide))) (ea_consT (tw_dat (ew_tup (ewa_cons (ew_str "shown" (by decide +kernel)) (ewa_cons (ew_str "a" (by decide +kernel)) (ewa_cons (ew_cut (K := K) (n := 2) (ew_var (i := 0) rfl h0) (by decide) (by decide)) (ewa_cons (ew_tup (ewa_cons (ew_str "" (by decide +kernel)) (ewa_cons (ew_str "d" (by decide +kernel)) ewa_nil)) (by decide)) (ewa_cons (ew_str "p" (by decide +kernel)) ewa_nil))))) (by decide))) ea_nilT)) (by decide)) (by decide)) k fun v3 H5 e5 ⟨p3, vs3, ev, h3, h3e⟩ => ?_
  subst ev
  replace eH := eH.trans e5
  replace h0 := Dq.same (ws_ex e5) _ _ h0
  replace h1 := h1.ex (ws_ex e5)
  replace h2 := Dq.same (ws_ex e5) _ _ h2
  replace k := (k.ex e5).self
  refine q_catN (K := K) (S := sH H) (ts := right1 ++ right2) (us := right3) (el_varT (i := 3) rfl h3 h3e) (el_lstT (ea_consT (tw_dat (ew_tup (ewa_cons (ew_str "shown" (by decide +kernel)) (ewa_cons (ew_str "d" (by decide +kernel)) (ewa_cons (ew_tup ewa_nil (by decide)) (ewa_cons (ew_tup (ewa_cons (ew_str "" (by decide +kernel)) (ewa_cons (ew_str "d" (by decide +kernel)) ewa_nil)) (by decide)) (ewa_cons (ew_str "p" (by decide +kernel)) ewa_nil))))) (by decide))) (ea_consT (tw_dat (ew_tup (ewa_cons (ew_str "shown" (by decide +kernel)) (ewa_cons (ew_str "d" (by decide +kernel)) (ewa_cons (ew_tup ewa_nil (by decide)) (ewa_cons (ew_tup (ewa_cons (ew_str "" (by decide +kernel)) (ewa_cons (ew_str "d" (by decide +kernel)) ewa_nil)) (by decide)) (ewa_cons (ew_str "q" (by decide +kernel)) ewa_nil))))) (by decide))) ea_nilT)) (by decide)) (by decide) k fun p vs6 H6 e6 hp hE => ?_
  replace eH := eH.trans e6
  have hpH : H p = none := Evl.fresh_back eH hp
  have F0 := Fnd.new (k.ex e6).self hp hE
  replace h0 := Dq.same ((ws_ex e6).trans (sU_ex (o := .lst vs6) hp)) _ _ h0
  replace h1 := h1.ex ((ws_ex e6).trans (sU_ex (o := .lst vs6) hp))
  replace h2 := Dq.same ((ws_ex e6).trans (sU_ex (o := .lst vs6) hp)) _ _ h2
  replace eH : Ex H (upd H6 p (.lst vs6)) := Ex.mut eH hpH
  generalize (upd H6 p (.lst vs6)) = G6 at eH h0 h1 h2 F0
  refine q_appF (K := K) (t := rightA1) F0 (by decide) rfl (tw_dat (ew_tup (ewa_cons (ew_str "shown" (by decide +kernel)) (ewa_cons (ew_str "d/e/g" (by decide +kernel)) (ewa_cons (ew_var (i := 0) rfl h0) (ewa_cons (ew_tup (ewa_cons (ew_str "" (by decide +kernel)) (ewa_cons (ew_str "d" (by decide +kernel)) (ewa_cons (ew_str "d" (by decide +kernel)) (ewa_cons (ew_str "d/g" (by decide +kernel)) ewa_nil)))) (by decide)) (ewa_cons (ew_str "q" (by decide +kernel)) ewa_nil))))) (by decide))) fun H7 m7 F1 => ?_
  replace h0 := Dq.same (ap_ex (Or.inr rfl) m7) _ _ h0
  replace h1 := h1.ex (ap_ex (Or.inr rfl) m7)
  replace h2 := Dq.same (ap_ex (Or.inr rfl) m7) _ _ h2
  replace eH : Ex H H7 := fun a o h => m7 a o (ne_of_none h hpH) (eH a o h)
  refine q_appF (K := K) (t := rightA2) F1 (by decide) rfl (tw_dat (ew_tup (ewa_cons (ew_str "shown" (by decide +kernel)) (ewa_cons (ew_str "" (by decide +kernel)) (ewa_cons (ew_catT (K := K) (ew_cut (K := K) (n := 1) (ew_var (i := 0) rfl h0) (by decide) (by decide)) (ew_cut (K := K) (n := 1) (ew_var (i := 0) rfl h0) (by decide) (by decide)) (by decide) (by decide) (by decide)) (ewa_cons (ew_tup (ewa_cons (ew_str "" (by decide +kernel)) ewa_nil) (by decide)) (ewa_cons ew_non ewa_nil))))) (by decide))) fun H8 m8 F2 => ?_
  replace h0 := Dq.same (ap_ex (Or.inr rfl) m8) _ _ h0
  replace h1 := h1.ex (ap_ex (Or.inr rfl) m8)
  replace h2 := Dq.same (ap_ex (Or.inr rfl) m8) _ _ h2
  replace eH : Ex H H8 := fun a o h => m8 a o (ne_of_none h hpH) (eH a o h)
  refine q_asgG (show EWB (sU (sH H) p) _ _ H8 farT from eb_disp (ewp_cons (ew_tup (ewa_cons (ew_str "a" (by decide +kernel)) (ewa_cons (ew_str "d" (by decide +kernel)) (ewa_cons (ew_str "zz" (by decide +kernel)) (ewa_cons (ew_str "b/c" (by decide +kernel)) ewa_nil)))) (by decide)) (ewp_cons (ew_tup (ewa_cons (ew_str "d" (by decide +kernel)) (ewa_cons (ew_str "zz" (by decide +kernel)) ewa_nil)) (by decide)) (ewp_cons (ew_tup (ewa_cons (ew_str "a" (by decide +kernel)) (ewa_cons (ew_str "d" (by decide +kernel)) (ewa_cons (ew_str "zz" (by decide +kernel)) (ewa_cons (ew_str "b/c" (by decide +kernel)) ewa_nil)))) (by decide)) (ewp_cons (ew_tup (ewa_cons (ew_str "h" (by decide +kernel)) (ewa_cons (ew_str "zz/a/b" (by decide +kernel)) ewa_nil)) (by decide)) ewp_nil)))) (by decide) (by decide +kernel)) F2.k fun v4 H9 e9 ⟨b4, eb, h4⟩ => ?_
  subst eb
  replace h1 := h1.ex (ws_ex e9)
  have F3 := F2.ex e9
  replace eH := eH.trans e9
  refine s_retF (us := rightZ) F3 rfl (el_lstT (ea_consT (tw_tab (ds := []) (ew_str "absent" (by decide +kernel)) (ew_str "h" (by decide +kernel)) (eb_var (i := 1) rfl h1) ewa_nil (by decide)) (ea_consT (tw_tab (ds := []) (ew_str "absent" (by decide +kernel)) (ew_str "a/h" (by decide +kernel)) (eb_var (i := 1) rfl h1) ewa_nil (by decide)) (ea_consT (tw_tab (ds := []) (ew_str "absent" (by decide +kernel)) (ew_str "d/f/f" (by decide +kernel)) (eb_var (i := 4) rfl h4) ewa_nil (by decide)) (ea_consT (tw_tab (ds := []) (ew_str "absent" (by decide +kernel)) (ew_str "zzz" (by decide +kernel)) (eb_var (i := 4) rfl h4) ewa_nil (by decide)) ea_nilT)))) (by decide)) (by decide) fun x vs H10 e10 hx hE => ?_
  have hxH : H x = none := Evl.fresh_back (eH.trans e10) hx
  exact hq x vs _ ((eH.trans e10).trans (Ex.new hx)) (wS_put (fun h => h hxH) upd_same) (each_th (sU_sub.trans (ws_ex (Ex.new hx))) hE)
theorem ok_lshown {f f1 : Addr} {fd fd1 : FuncData} (F : Fun K "_law_wrong_shown" "_law_wrong_shown" s__law_wrong_shown f fd) (T : Txt K mg tk1 tk2) (d_law_facts : DefAt P w K mg base "_law_facts" 1 f1 fd1 [] (spNewD (.tuple factsL))) : FnOk P w K mg base CX0 2 f fd [] (spNewL K wrongT) := by
  refine F.ok sc__law_wrong_shown (fun vs H Q E h => by obtain ⟨rfl, _⟩ := h; rfl) (fun cdv A outer s H vs Q E hr h => ?_)
  refine ⟨_, (pss_cons (ps_asg (pe_callD0 d_law_facts (hr.mono (by decide))) (pg_tup (by rfl) (pgs_cons (pg_name (i := 0) sc__law_wrong_shown.nd rfl (Or.inl rfl)) (pgs_cons (pg_name (i := 1) sc__law_wrong_shown.nd rfl (Or.inl rfl)) (pgs_cons (pg_name (i := 2) sc__law_wrong_shown.nd rfl (Or.inl rfl)) pgs_nil)))))
    (pss_cons (ps_set (i := 3) sc__law_wrong_shown.nd rfl (Or.inl rfl) (pe_tup (pa_cons pe_str (pa_cons pe_str (pa_cons pe_str pa_nil)))))
    (pss_cons (ps_set (i := 4) sc__law_wrong_shown.nd rfl (Or.inl rfl) (pe_lst (pa_cons (pe_tup (pa_cons pe_str (pa_cons pe_str (pa_cons (pe_tup (pa_cons (pv 1) (pa_cons (pv 0) pa_nil))) (pa_cons (pv 3) (pa_cons pe_str pa_nil)))))) (pa_cons (pe_tup (pa_cons pe_str (pa_cons pe_str (pa_cons (pe_tup (pa_cons (pv 1) pa_nil)) (pa_cons (pv 3) (pa_cons pe_str pa_nil)))))) pa_nil))))
    (pss_cons (ps_set (i := 4) sc__law_wrong_shown.nd rfl (Or.inl rfl) (pe_op op_cat (pv 4) (pe_lst (pa_cons (pe_tup (pa_cons pe_str (pa_cons pe_str (pa_cons (pe_tup (pa_cons (pv 0) pa_nil)) (pa_cons (pv 3) (pa_cons pe_str pa_nil)))))) (pa_cons (pe_tup (pa_cons pe_str (pa_cons pe_str (pa_cons (pe_tup (pa_cons (pv 0) (pa_cons (pv 1) pa_nil))) (pa_cons (pv 3) (pa_cons pe_str pa_nil)))))) pa_nil)))))
    (pss_cons (ps_set (i := 4) sc__law_wrong_shown.nd rfl (Or.inl rfl) (pe_op op_cat (pv 4) (pe_lst (pa_cons (pe_tup (pa_cons pe_str (pa_cons pe_str (pa_cons (pe_tup (pa_cons (pv 0) (pa_cons (pv 1) pa_nil))) (pa_cons (pv 3) (pa_cons pe_non pa_nil)))))) (pa_cons (pe_tup (pa_cons pe_str (pa_cons pe_str (pa_cons (pe_tup (pa_cons (pv 0) (pa_cons (pv 1) pa_nil))) (pa_cons (pe_tup (pa_cons pe_str (pa_cons pe_str pa_nil))) (pa_cons pe_str pa_nil)))))) pa_nil)))))
    (pss_cons (ps_set (i := 4) sc__law_wrong_shown.nd rfl (Or.inl rfl) (pe_op op_cat (pv 4) (pe_lst (pa_cons (pe_tup (pa_cons pe_str (pa_cons pe_str (pa_cons (pe_tup (pa_cons (pv 0) (pa_cons (pv 1) pa_nil))) (pa_cons (pe_tup (pa_cons pe_str (pa_cons pe_str pa_nil))) (pa_cons pe_str pa_nil)))))) (pa_cons (pe_tup (pa_cons pe_str (pa_cons pe_str (pa_cons (pe_tup (pa_cons (pe_tup (pa_cons pe_str (pa_cons (pe_tup (pa_cons pe_str (pa_cons pe_str pa_nil))) pa_nil))) pa_nil)) (pa_cons (pe_tup (pa_cons pe_str (pa_cons pe_str pa_nil))) (pa_cons pe_str pa_nil)))))) pa_nil)))))
    (pss_cons (ps_set (i := 4) sc__law_wrong_shown.nd rfl (Or.inl rfl) (pe_op op_cat (pv 4) (pe_lst (pa_cons (pe_tup (pa_cons pe_str (pa_cons pe_str (pa_cons (pe_lst (pa_cons (pv 0) (pa_cons (pv 1) pa_nil))) (pa_cons (pv 3) (pa_cons pe_str pa_nil)))))) (pa_cons (pe_tup (pa_cons pe_str (pa_cons pe_str (pa_cons (pe_tup (pa_cons (pv 0) (pa_cons (pv 1) pa_nil))) (pa_cons (pe_callTy call_list_of (by rfl) T.n_list (by decide +kernel) (pa_cons (pv 3) pa_nil)) (pa_cons pe_str pa_nil)))))) pa_nil)))))
    (pss_cons (ps_set (i := 4) sc__law_wrong_shown.nd rfl (Or.inl rfl) (pe_op op_cat (pv 4) (pe_lst (pa_cons (pe_tup (pa_cons pe_str (pa_cons pe_str (pa_cons (pe_tup pa_nil) (pa_cons (pe_tup (pa_cons pe_str pa_nil)) (pa_cons pe_str pa_nil)))))) (pa_cons (pe_tup (pa_cons pe_str (pa_cons pe_str (pa_cons (pe_tup pa_nil) (pa_cons (pe_tup (pa_cons pe_str (pa_cons pe_str pa_nil))) (pa_cons pe_str pa_nil)))))) pa_nil)))))
    (pss_cons (ps_set (i := 4) sc__law_wrong_shown.nd rfl (Or.inl rfl) (pe_op op_cat (pv 4) (pe_lst (pa_cons (pe_tup (pa_cons pe_str (pa_cons pe_str (pa_cons (pe_tup pa_nil) (pa_cons (pe_tup (pa_cons pe_str (pa_cons pe_str pa_nil))) (pa_cons (pe_lst (pa_cons pe_str pa_nil)) pa_nil)))))) (pa_cons (pe_tup (pa_cons pe_str (pa_cons pe_str (pa_cons (pe_tup pa_nil) (pa_cons (pe_tup (pa_cons pe_str pa_nil)) (pa_cons pe_str pa_nil)))))) pa_nil)))))
    (pss_cons (ps_set (i := 4) sc__law_wrong_shown.nd rfl (Or.inl rfl) (pe_op op_cat (pv 4) (pe_lst (pa_cons (pe_tup (pa_cons pe_str (pa_cons pe_str (pa_cons (pe_tup pa_nil) (pa_cons (pe_tup (pa_cons pe_str (pa_cons pe_str pa_nil))) pa_nil))))) (pa_cons (pe_tup (pa_cons pe_str (pa_cons pe_str (pa_cons (pe_tup pa_nil) (pa_cons (pe_tup (pa_cons pe_str (pa_cons pe_str (pa_cons pe_str pa_nil)))) (pa_cons pe_str pa_nil)))))) pa_nil)))))
    (pss_cons (ps_set (i := 4) sc__law_wrong_shown.nd rfl (Or.inl rfl) (pe_op op_cat (pv 4) (pe_lst (pa_cons (pe_lst (pa_cons pe_str (pa_cons pe_str (pa_cons (pe_tup pa_nil) (pa_cons (pe_tup (pa_cons pe_str (pa_cons pe_str pa_nil))) (pa_cons pe_str pa_nil)))))) (pa_cons (pe_tup (pa_cons pe_str (pa_cons pe_str (pa_cons (pe_tup pa_nil) (pa_cons (pe_tup (pa_cons pe_str (pa_cons pe_str pa_nil))) (pa_cons pe_str pa_nil)))))) pa_nil)))))
    (pss_one (ps_ret (pe_op op_cat (pv 4) (pe_lst (pa_cons (pe_tup (pa_cons pe_str (pa_cons pe_str (pa_cons (pe_tup (pa_cons (pv 2) pa_nil)) (pa_cons (pe_tup (pa_cons pe_str (pa_cons pe_str pa_nil))) (pa_cons pe_str pa_nil)))))) (pa_cons (pe_tup (pa_cons pe_str (pa_cons pe_str (pa_cons (pe_tup pa_nil) (pa_cons pe_int (pa_cons pe_str pa_nil)))))) pa_nil))))))))))))))))), ?_⟩
  obtain ⟨rfl, hq⟩ := h
  refine (ew_call0 (S := sH H) (σ := [none,none,none,none,none]) (E := E0) (H := H) (d := .tuple factsL)) H kp0 _ fun v0 H1 e1 p0 => ?_
  obtain ⟨a, xs, rfl, ha, hda, _, _⟩ := p0.tupE rfl
  have hda : DqAll (wS (sH H) H1) xs [fact1, fact2, fact3] := hda
  obtain ⟨x0, x1, x2, rfl, h0, h1, h2⟩ : ∃ x0 x1 x2, xs = [x0, x1, x2] ∧ Dq (wS (sH H) H1) x0 fact1 ∧ Dq (wS (sH H) H1) x1 fact2 ∧ Dq (wS (sH H) H1) x2 fact3 := by
    cases hda with | cons g0 t => cases t with | cons g1 t => cases t with | cons g2 t => cases t with | nil => exact ⟨_, _, _, rfl, g0, g1, g2⟩
  refine ⟨a, _, rfl, st_of (wS_get ha).2, rfl, _, _, rfl, _, _, rfl, _, _, rfl, rfl, ?_⟩
  have eH : Ex H H1 := e1
  have k : Kp (sH H) H1 H1 := (kp0.ex e1).self
  refine q_asgG (show EW (sH H) _ _ H1 (.tuple downL) from (ew_tup (ewa_cons (ew_str "" (by decide +kernel)) (ewa_cons (ew_str "d" (by decide +kernel)) (ewa_cons (ew_str "d/f" (by decide +kernel)) ewa_nil))) (by decide))) k fun v3 H2 e2 h3 => ?_
  replace eH := eH.trans e2
  replace h0 := Dq.same (ws_ex e2) _ _ h0
  replace h1 := Dq.same (ws_ex e2) _ _ h1
  replace h2 := Dq.same (ws_ex e2) _ _ h2
  replace k := (k.ex e2).self
  refine q_asgG (show EWL K (sH H) _ _ H2 wrong1 from el_lstT (ea_consT (tw_dat (ew_tup (ewa_cons (ew_str "shown" (by decide +kernel)) (ewa_cons (ew_str "a/f" (by decide +kernel)) (ewa_cons (ew_tup (ewa_cons (ew_var (i := 1) rfl h1) (ewa_cons (ew_var (i := 0) rfl h0) ewa_nil)) (by decide)) (ewa_cons (ew_var (i := 3) rfl h3) (ewa_cons (ew_str "p" (by decide +kernel)) ewa_nil))))) (by decide))) (ea_consT (tw_dat (ew_tup (ewa_cons (ew_str "shown" (by decide +kernel)) (ewa_cons (ew_str "a/f" (by decide +kernel)) (ewa_cons (ew_tup (ewa_cons (ew_var (i := 1) rfl h1) ewa_nil) (by decide)) (ewa_cons (ew_var (i := 3) rfl h3) (ewa_cons (ew_str "p" (by decide +kernel)) ewa_nil))))) (by decide))) ea_nilT)) (by decide)) k fun v4 H3 e3 ⟨p4, vs4, ev, h4, h4e⟩ => ?_
  subst ev
  replace eH := eH.trans e3
  replace h0 := Dq.same (ws_ex e3) _ _ h0
  replace h1 := Dq.same (ws_ex e3) _ _ h1
  replace h2 := Dq.same (ws_ex e3) _ _ h2
  replace h3 := Dq.same (ws_ex e3) _ _ h3
  replace k := (k.ex e3).self
  refine q_asgG (show EWL K (sH H) _ _ H3 (wrong1 ++ wrong2) from el_catT (el_varT (i := 4) rfl h4 h4e) (el_lstT (ea_consT (tw_dat (ew_tup (ewa_cons (ew_str "shown" (by decide +kernel)) (ewa_cons (ew_str "a/f" (by decide +kernel)) (ewa_cons (ew_tup (ewa_cons (ew_var (i := 0) rfl h0) ewa_nil) (by decide)) (ewa_cons (ew_var (i := 3) rfl h3) (ewa_cons (ew_str "p" (by decide +kernel)) ewa_nil))))) (by decide))) (ea_consT (tw_dat (ew_tup (ewa_cons (ew_str "shown" (by decide +kernel)) (ewa_cons (ew_str "a/f" (by decide +kernel)) (ewa_cons (ew_tup (ewa_cons (ew_var (i := 0) rfl h0) (ewa_cons (ew_var (i := 1) rfl h1) ewa_nil)) (by decide)) (ewa_cons (ew_var (i := 3) rfl h3) (ewa_cons (ew_str "q" (by decide +kernel)) ewa_nil))))) (by decide))) ea_nilT)) (by decide)) (by decide)) k fun v4 H4 e4 ⟨p4, vs4, ev, h4, h4e⟩ => ?_
  subst ev
  replace eH := eH.trans e4
  replace h0 := Dq.same (ws_ex e4) _ _ h0
  replace h1 := Dq.same (ws_ex e4) _ _ h1
  replace h2 := Dq.same (ws_ex e4) _ _ h2
  replace h3 := Dq.same (ws_ex e4) _ _ h3
  replace k := (k.ex e4).self
  refine q_asgG (show EWL K (sH H) _ _ H4 ((wrong1 ++ wrong2) ++ wrong3) from el_catT (el_varT (i := 4) rfl h4 h4e) (el_lstT (ea_consT (tw_dat (ew_tup (ewa_cons (ew_str "shown" (by decide +kernel)) (ewa_cons (ew_str "a/f" (by decide +kernel)) (ewa_cons (ew_tup (ewa_cons (ew_var (i := 0) rfl h0) (ewa_cons (ew_var (i := 1) rfl h1) ewa_nil)) (by decide)) (ewa_cons (ew_var (i := 3) rfl h3) (ewa_cons ew_non ewa_nil))))) (by decide))) (ea_consT (tw_dat (ew_tup (ewa_cons (ew_str "shown" (by decide +kernel)) (ewa_cons (ew_str "a" (by decide +kernel)) (ewa_cons (ew_tup (ewa_cons (ew_var (i := 0) rfl h0) (ewa_cons (ew_var (i := 1) rfl h1) ewa_nil)) (by decide)) (ewa_cons (ew_tup (ewa_cons (ew_str "" (by decide +kernel)) (ewa_cons (ew_str "b/c" (by decide +kernel)) ewa_nil)) (by decide)) (ewa_cons (ew_str "q" (by decide +kernel)) ewa_nil))))) (by decide))) ea_nilT)) (by decide)) (by decide)) k fun v4 H5 e5 ⟨p4, vs4, ev, h4, h4e⟩ => ?_
  subst ev
  replace eH := eH.trans e5
  replace h0 := Dq.same (ws_ex e5) _ _ h0
  replace h1 := Dq.same (ws_ex e5) _ _ h1
  replace h2 := Dq.same (ws_ex e5) _ _ h2
  replace h3 := Dq.same (ws_ex e5) _ _ h3
  replace k := (k.ex e5).self
  refine q_asgG (show EWL K (sH H) _ _ H5 (((wrong1 ++ wrong2) ++ wrong3) ++ wrong4) from el_catT (el_varT (i := 4) rfl h4 h4e) (el_lstT (ea_consT (tw_dat (ew_tup (ewa_cons (ew_str "shown" (by decide +kernel)) (ewa_cons (ew_str "a" (by decide +kernel)) (ewa_cons (ew_tup (ewa_cons (ew_var (i := 0) rfl h0) (ewa_cons (ew_var (i := 1) rfl h1) ewa_nil)) (by decide)) (ewa_cons (ew_tup (ewa_cons (ew_str "" (by decide +kernel)) (ewa_cons (ew_str "a" (by decide +kernel)) ewa_nil)) (by decide)) (ewa_cons (ew_str "p" (by decide +kernel)) ewa_nil))))) (by decide))) (ea_consT (tw_dat (ew_tup (ewa_cons (ew_str "shown" (by decide +kernel)) (ewa_cons (ew_str "h" (by decide +kernel)) (ewa_cons (ew_tup (ewa_cons (ew_tup (ewa_cons (ew_str "h" (by decide +kernel)) (ewa_cons (ew_tup (ewa_cons (ew_str "" (by decide +kernel)) (ewa_cons (ew_str "h" (by decide +kernel)) ewa_nil)) (by decide)) ewa_nil)) (by decide)) ewa_nil) (by decide)) (ewa_cons (ew_tup (ewa_cons (ew_str "" (by decide +kernel)) (ewa_cons (ew_str "h" (by decide +kernel)) ewa_nil)) (by decide)) (ewa_cons (ew_str "q" (by decide +kernel)) ewa_nil))))) (by decide))) ea_nilT)) (by decide)) (by decide)) k fun v4 H6 e6 ⟨p4, vs4, ev, h4, h4e⟩ => ?_
  subst ev
  replace eH := eH.trans e6
  replace h0 := Dq.same (ws_ex e6) _ _ h0
  replace h1 := Dq.same (ws_ex e6) _ _ h1
  replace h2 := Dq.same (ws_ex e6) _ _ h2
  replace h3 := Dq.same (ws_ex e6) _ _ h3
  replace k := (k.ex e6).self
  refine q_asgG (show EWL K (sH H) _ _ H6 ((((wrong1 ++ wrong2) ++ wrong3) ++ wrong4) ++ wrong5) from el_catT (el_varT (i := 4) rfl h4 h4e) (el_lstT (ea_consT (tw_dat (ew_tup (ewa_cons (ew_str "shown" (by decide +kernel)) (ewa_cons (ew_str "a/f" (by decide +kernel)) (ewa_cons (ew_lst (ewa_cons (ew_var (i := 0) rfl h0) (ewa_cons (ew_var (i := 1) rfl h1) ewa_nil)) (by decide)) (ewa_cons (ew_var (i := 3) rfl h3) (ewa_cons (ew_str "p" (by decide +kernel)) ewa_nil))))) (by decide))) (ea_consT (tw_dat (ew_tup (ewa_cons (ew_str "shown" (by decide +kernel)) (ewa_cons (ew_str "a/f" (by decide +kernel)) (ewa_cons (ew_tup (ewa_cons (ew_var (i := 0) rfl h0) (ewa_cons (ew_var (i := 1) rfl h1) ewa_nil)) (by decide)) (ewa_cons (ew_listT (K := K) (ew_var (i := 3) rfl h3) (by decide)) (ewa_cons (ew_str "p" (by decide +kernel)) ewa_nil))))) (by decide))) ea_nilT)) (by decide)) (by decide)) k fun v4 H7 e7 ⟨p4, vs4, ev, h4, h4e⟩ => ?_
  subst ev
  replace eH := eH.trans e7
  replace h0 := Dq.same (ws_ex e7) _ _ h0
  replace h1 := Dq.same (ws_ex e7) _ _ h1
  replace h2 := Dq.same (ws_ex e7) _ _ h2
  replace h3 := Dq.same (ws_ex e7) _ _ h3
  replace k := (k.ex e7).self
  refine q_asgG (show EWL K (sH H) _ _ H7 (((((wrong1 ++ wrong2) ++ wrong3) ++ wrong4) ++ wrong5) ++ wrong6) from el_catT (el_varT (i := 4) rfl h4 h4e) (el_lstT (ea_consT (tw_dat (ew_tup (ewa_cons (ew_str "shown" (by decide +kernel)) (ewa_cons (ew_str "" (by decide +kernel)) (ewa_cons (ew_tup ewa_nil (by decide)) (ewa_cons (ew_tup (ewa_cons (ew_str "" (by decide +kernel)) ewa_nil) (by decide)) (ewa_cons (ew_str "p" (by decide +kernel)) ewa_nil))))) (by decide))) (ea_consT (tw_dat (ew_tup (ewa_cons (ew_str "shown" (by decide +kernel)) (ewa_cons (ew_str "d" (by decide +kernel)) (ewa_cons (ew_tup ewa_nil (by decide)) (ewa_cons (ew_tup (ewa_cons (ew_str "" (by decide +kernel)) (ewa_cons (ew_str "d" (by decide +kernel)) ewa_nil)) (by decide)) (ewa_cons (ew_str "r" (by decide +kernel)) ewa_nil))))) (by decide))) ea_nilT)) (by decide)) (by decide)) k fun v4 H8 e8 ⟨p4, vs4, ev, h4, h4e⟩ => ?_
  subst ev
  replace eH := eH.trans e8
  replace h0 := Dq.same (ws_ex e8) _ _ h0
  replace h1 := Dq.same (ws_ex e8) _ _ h1
  replace h2 := Dq.same (ws_ex e8) _ _ h2
  replace h3 := Dq.same (ws_ex e8) _ _ h3
  replace k := (k.ex e8).self
  refine q_asgG (show EWL K (sH H) _ _ H8 ((((((wrong1 ++ wrong2) ++ wrong3) ++ wrong4) ++ wrong5) ++ wrong6) ++ wrong7) from el_catT (el_varT (i := 4) rfl h4 h4e) (el_lstT (ea_consT (tw_dat (ew_tup (ewa_cons (ew_str "shown" (by decide +kernel)) (ewa_cons (ew_str "d" (by decide +kernel)) (ewa_cons (ew_tup ewa_nil (by decide)) (ewa_cons (ew_tup (ewa_cons (ew_str "" (by decide +kernel)) (ewa_cons (ew_str "d" (by decide +kernel)) ewa_nil)) (by decide)) (ewa_cons (ew_lst (ewa_cons (ew_str "p" (by decide +kernel)) ewa_nil) (by decide)) ewa_nil))))) (by decide))) (ea_consT (tw_dat (ew_tup (ewa_cons (ew_str "shown" (by decide +kernel)) (ewa_cons (ew_str "d" (by decide +kernel)) (ewa_cons (ew_tup ewa_nil (by decide)) (ewa_cons (ew_tup (ewa_cons (ew_str "d" (by decide +kernel)) ewa_nil) (by decide)) (ewa_cons (ew_str "p" (by decide +kernel)) ewa_nil))))) (by decide))) ea_nilT)) (by decide)) (by decide)) k fun v4 H9 e9 ⟨p4, vs4, ev, h4, h4e⟩ => ?_
  subst ev
  replace eH := eH.trans e9
  replace h0 := Dq.same (ws_ex e9) _ _ h0
  replace h1 := Dq.same (ws_ex e9) _ _ h1
  replace h2 := Dq.same (ws_ex e9) _ _ h2
  replace h3 := Dq.same (ws_ex e9) _ _ h3
  replace k := (k.ex e9).self
  refine q_asgG (show EWL K (sH H) _ _ H9 (((((((wrong1 ++ wrong2) ++ wrong3) ++ wrong4) ++ wrong5) ++ wrong6) ++ wrong7) ++ wrong8) from el_catT (el_varT (i := 4) rfl h4 h4e) (el_lstT (ea_consT (tw_dat (ew_tup (ewa_cons (ew_str "shown" (by decide +kernel)) (ewa_cons (ew_str "d" (by decide +kernel)) (ewa_cons (ew_tup ewa_nil (by decide)) (ewa_cons (ew_tup (ewa_cons (ew_str "" (by decide +kernel)) (ewa_cons (ew_str "d" (by decide +kernel)) ewa_nil)) (by decide)) ewa_nil)))) (by decide))) (ea_consT (tw_dat (ew_tup (ewa_cons (ew_str "shown" (by decide +kernel)) (ewa_cons (ew_str "d" (by decide +kernel)) (ewa_cons (ew_tup ewa_nil (by decide)) (ewa_cons (ew_tup (ewa_cons (ew_str "" (by decide +kernel)) (ewa_cons (ew_str "d" (by decide +kernel)) (ewa_cons (ew_str "d" (by decide +kernel)) ewa_nil))) (by decide)) (ewa_cons (ew_str "p" (by decide +kernel)) ewa_nil))))) (by decide))) ea_nilT)) (by decide)) (by decide)) k fun v4 H10 e10 ⟨p4, vs4, ev, h4, h4e⟩ => ?_
  subst ev
  replace eH := eH.trans e10
  replace h0 := Dq.same (ws_ex e10) _ _ h0
  replace h1 := Dq.same (ws_ex e10) _ _ h1
  replace h2 := Dq.same (ws_ex e10) _ _ h2
  replace h3 := Dq.same (ws_ex e10) _ _ h3
  replace k := (k.ex e10).self
  refine q_asgG (show EWL K (sH H) _ _ H10 ((((((((wrong1 ++ wrong2) ++ wrong3) ++ wrong4) ++ wrong5) ++ wrong6) ++ wrong7) ++ wrong8) ++ wrong9) from el_catT (el_varT (i := 4) rfl h4 h4e) (el_lstT (ea_consT (tw_dat (ew_lst (ewa_cons (ew_str "shown" (by decide +kernel)) (ewa_cons (ew_str "d" (by decide +kernel)) (ewa_cons (ew_tup ewa_nil (by decide)) (ewa_cons (ew_tup (ewa_cons (ew_str "" (by decide +kernel)) (ewa_cons (ew_str "d" (by decide +kernel)) ewa_nil)) (by decide)) (ewa_cons (ew_str "p" (by decide +kernel)) ewa_nil))))) (by decide))) (ea_consT (tw_dat (ew_tup (ewa_cons (ew_str "Shown" (by decide +kernel)) (ewa_cons (ew_str "d" (by decide +kernel)) (ewa_cons (ew_tup ewa_nil (by decide)) (ewa_cons (ew_tup (ewa_cons (ew_str "" (by decide +kernel)) (ewa_cons (ew_str "d" (by decide +kernel)) ewa_nil)) (by decide)) (ewa_cons (ew_str "p" (by decide +kernel)) ewa_nil))))) (by decide))) ea_nilT)) (by decide)) (by decide)) k fun v4 H11 e11 ⟨p4, vs4, ev, h4, h4e⟩ => ?_
  subst ev
  replace eH := eH.trans e11
  replace h0 := Dq.same (ws_ex e11) _ _ h0
  replace h1 := Dq.same (ws_ex e11) _ _ h1
  replace h2 := Dq.same (ws_ex e11) _ _ h2
  replace h3 := Dq.same (ws_ex e11) _ _ h3
  replace k := (k.ex e11).self
  exact (show EWL K (sH H) _ _ H11 wrongT from el_catT (el_varT (i := 4) rfl h4 h4e) (el_lstT (ea_consT (tw_dat (ew_tup (ewa_cons (ew_str "shown" (by decide +kernel)) (ewa_cons (ew_str "d" (by decide +kernel)) (ewa_cons (ew_tup (ewa_cons (ew_var (i := 2) rfl h2) ewa_nil) (by decide)) (ewa_cons (ew_tup (ewa_cons (ew_str "" (by decide +kernel)) (ewa_cons (ew_str "d" (by decide +kernel)) ewa_nil)) (by decide)) (ewa_cons (ew_str "p" (by decide +kernel)) ewa_nil))))) (by decide))) (ea_consT (tw_dat (ew_tup (ewa_cons (ew_str "shown" (by decide +kernel)) (ewa_cons (ew_str "d" (by decide +kernel)) (ewa_cons (ew_tup ewa_nil (by decide)) (ewa_cons (ew_int 1) (ewa_cons (ew_str "p" (by decide +kernel)) ewa_nil))))) (by decide))) ea_nilT)) (by decide)) (by decide)) H11 k _ fun v He ee ⟨x, vs, ev, hx, hE⟩ => by
    subst ev
    exact hq x vs He (eH.trans ee) hx hE
end
end KF

set_option Elab.async false
set_option linter.all false
set_option maxRecDepth 100000
set_option maxHeartbeats 16000000
namespace KF
open PySem PySem.Spec PyProof.Rows L2 LF
open Evl (Ev EvL EvU EvT EvA Ex sq_of st_of)
open PySem.W (EachIs)
abbrev s__law_wrong_absent : Stmt := topS 60
abbrev N__law_wrong_absent : List Str := ["_law_table_here", "_law_found", "_law_lot", "_law_goal", "_law_places", "_law_bent", "_law_less"]
theorem sc__law_wrong_absent : FnScope ["_law_table_here", "_law_found", "_law_lot", "_law_goal", "_law_places", "_law_bent", "_law_less"] [] (defScope s__law_wrong_absent) := ⟨rfl, rfl, rfl, by decide +kernel, rfl, by decide +kernel, by decide +kernel⟩
def foundA : List Th := [(.tab (.str "absent") (.str "a") tableT 0), (.tab (.str "absent") (.str "d") tableT 0), (.tab (.str "absent") (.str "") tableT 0), (.tab (.str "absent") (.str "h") tableT 1)]
def lot1 : List Th := [(.dat (.tuple [(.str "b/c"), (.tuple [(.str "b/c")])])), (.dat (.tuple [(.str "d"), (.tuple [])])), (.dat (.tuple [(.str "a"), (.tuple [(.str "a"), (.str "b/c")])])), (.dat (.tuple [(.str "h"), (.tuple [])])), (.dat (.tuple [(.str "h"), (.list [(.str "h")])])), (.dat (.tuple [(.str "a"), (.tuple [(.str "b/c"), (.str "a"), (.str "d")])]))]
def lot2 : List Th := [(.dat (.tuple [(.str "h"), (.tuple [(.str "h"), (.str "d")])])), (.dat (.tuple [(.str "h"), (.tuple [(.str ""), (.str "h")])])), (.dat (.tuple [(.str "h"), (.tuple [(.str "h"), (.str "h")])])), (.dat (.tuple [(.str "z"), (.tuple [])])), (.dat (.tuple [(.str "h"), (.tuple [(.str "h"), (.str "H")])]))]
def lot3 : List Th := [(.dat (.tuple [(.str "h"), (.str "h")])), (.dat (.tuple [(.int 5), (.tuple [])]))]
def lotL : List (Key × PyData) := [(.inr "b/c", (.tuple [(.str "b/c")])), (.inr "d", (.tuple [])), (.inr "a", (.tuple [(.str "a"), (.str "b/c")])), (.inr "h", (.tuple [])), (.inr "h", (.list [(.str "h")])), (.inr "a", (.tuple [(.str "b/c"), (.str "a"), (.str "d")])), (.inr "h", (.tuple [(.str "h"), (.str "d")])), (.inr "h", (.tuple [(.str ""), (.str "h")])), (.inr "h", (.tuple [(.str "h"), (.str "h")])), (.inr "z", (.tuple [])), (.inr "h", (.tuple [(.str "h"), (.str "H")])), (.inr "h", (.str "h")), (.inl 5, (.tuple []))]
def kD : Key → PyData
  | .inl n => .int n
  | .inr z => .str z
def lotOf (p : Key × PyData) : Th := .dat (.tuple [kD p.1, p.2])
theorem lot_eq : (lot1 ++ lot2) ++ lot3 = lotL.map lotOf := rfl
def bentT (p : Key × PyData) : Th := .tab (.str "absent") (.str "h") (putP tableT p.1 p.2) 0
def absentZ : List Th := [(.tab (.str "absent") (.str "h") (dropP tableT (.inr "a")) 0), (.dat (.tuple [(.str "absent"), (.str "h"), (.list (keysD tableT))])), (.tab (.str "absent") (.str "h") [] 0), (.tab (.str "absent") (.str "h/") tableT 0)]
def absentT : List Th := (foundA ++ lotL.map bentT) ++ absentZ
section
variable {P : Program} {w : World} {K : PySem.W.Frag} {mg : Str → Option Value} {base : Heap} {tk1 tk2 : Tok}
theorem dq_kD {H : Hp} {v : V} : ∀ {k : Key}, Dq H v (kD k) → v = kV k
  | .inl n, h => by cases (show Dq H v (.int n) from h); rfl
  | .inr z, h => by cases (show Dq H v (.str z) from h); rfl
theorem each_get {A B : Type} {R : A → B → Prop} : ∀ {as : List A} {bs : List B}, EachIs R as bs → ∀ {i : Nat} {x : A}, as[i]? = some x → ∃ y, bs[i]? = some y ∧ R x y
  | _, _, .nil, i, x, h => by simp at h
  | _, _, .cons r t, 0, x, h => ⟨_, rfl, by cases h; exact r⟩
  | _, _, .cons r t, i + 1, x, h => each_get t (i := i) h
theorem ok_labsent {f f1 : Addr} {fd fd1 : FuncData} (F : Fun K "_law_wrong_absent" "_law_wrong_absent" s__law_wrong_absent f fd) (T : Txt K mg tk1 tk2) (n_dict : mg "dict" = none) (d_law_table : DefAt P w K mg base "_law_table" 1 f1 fd1 [] (spNewB tableT)) : FnOk P w K mg base CX0 2 f fd [] (spNewL K absentT) := by
  refine F.ok sc__law_wrong_absent (fun vs H Q E h => by obtain ⟨rfl, _⟩ := h; rfl) (fun cdv A outer s H vs Q E hr h => ?_)
  have hu1 := hu_of hr
  have hbig := sizeLine_big
  refine ⟨_, (pss_cons (ps_set (i := 0) sc__law_wrong_absent.nd rfl (Or.inl rfl) (pe_callD0 d_law_table (hr.mono (by decide))))
    (pss_cons (ps_set (i := 1) sc__law_wrong_absent.nd rfl (Or.inl rfl) (pe_lst (pa_cons (pe_tup (pa_cons pe_str (pa_cons pe_str (pa_cons (pv 0) pa_nil)))) (pa_cons (pe_tup (pa_cons pe_str (pa_cons pe_str (pa_cons (pv 0) pa_nil)))) (pa_cons (pe_tup (pa_cons pe_str (pa_cons pe_str (pa_cons (pv 0) pa_nil)))) (pa_cons (pe_tup (pa_cons pe_str (pa_cons pe_str (pa_cons (pv 0) (pa_cons pe_non pa_nil))))) pa_nil))))))
    (pss_cons (ps_set (i := 2) sc__law_wrong_absent.nd rfl (Or.inl rfl) (pe_lst (pa_cons (pe_tup (pa_cons pe_str (pa_cons (pe_tup (pa_cons pe_str pa_nil)) pa_nil))) (pa_cons (pe_tup (pa_cons pe_str (pa_cons (pe_tup pa_nil) pa_nil))) (pa_cons (pe_tup (pa_cons pe_str (pa_cons (pe_tup (pa_cons pe_str (pa_cons pe_str pa_nil))) pa_nil))) (pa_cons (pe_tup (pa_cons pe_str (pa_cons (pe_tup pa_nil) pa_nil))) (pa_cons (pe_tup (pa_cons pe_str (pa_cons (pe_lst (pa_cons pe_str pa_nil)) pa_nil))) (pa_cons (pe_tup (pa_cons pe_str (pa_cons (pe_tup (pa_cons pe_str (pa_cons pe_str (pa_cons pe_str pa_nil)))) pa_nil))) pa_nil))))))))
    (pss_cons (ps_set (i := 2) sc__law_wrong_absent.nd rfl (Or.inl rfl) (pe_op op_cat (pv 2) (pe_lst (pa_cons (pe_tup (pa_cons pe_str (pa_cons (pe_tup (pa_cons pe_str (pa_cons pe_str pa_nil))) pa_nil))) (pa_cons (pe_tup (pa_cons pe_str (pa_cons (pe_tup (pa_cons pe_str (pa_cons pe_str pa_nil))) pa_nil))) (pa_cons (pe_tup (pa_cons pe_str (pa_cons (pe_tup (pa_cons pe_str (pa_cons pe_str pa_nil))) pa_nil))) (pa_cons (pe_tup (pa_cons pe_str (pa_cons (pe_tup pa_nil) pa_nil))) (pa_cons (pe_tup (pa_cons pe_str (pa_cons (pe_tup (pa_cons pe_str (pa_cons pe_str pa_nil))) pa_nil))) pa_nil))))))))
    (pss_cons (ps_set (i := 2) sc__law_wrong_absent.nd rfl (Or.inl rfl) (pe_op op_cat (pv 2) (pe_lst (pa_cons (pe_tup (pa_cons pe_str (pa_cons pe_str pa_nil))) (pa_cons (pe_tup (pa_cons pe_int (pa_cons (pe_tup pa_nil) pa_nil))) pa_nil)))))
    (pss_cons (ps_for PassesOwn.never rfl (pi_list (pv 2)) (pg_tup (by rfl) (pgs_cons (pg_name (i := 3) sc__law_wrong_absent.nd rfl (Or.inl rfl)) (pgs_cons (pg_name (i := 4) sc__law_wrong_absent.nd rfl (Or.inl rfl)) pgs_nil))) (pss_cons (ps_set (i := 5) sc__law_wrong_absent.nd rfl (Or.inl rfl) (pe_callTy call_dictD (by rfl) n_dict (by decide +kernel) (pa_cons (pv 0) pa_nil)))
    (pss_cons (ps_dput hu1 (pv 5) (pv 3) (pv 4) rfl)
    (pss_one (ps_expr (pe_bm PySem.F.plainAttrs_list PySem.F.slot_list_append PySem.F.type_list_append mt_append (pv 1) (pa_cons (pe_tup (pa_cons pe_str (pa_cons pe_str (pa_cons (pv 5) pa_nil)))) pa_nil)))))))
    (pss_cons (ps_set (i := 6) sc__law_wrong_absent.nd rfl (Or.inl rfl) (pe_callTy call_dictD (by rfl) n_dict (by decide +kernel) (pa_cons (pv 0) pa_nil)))
    (pss_cons (ps_expr (pe_dpop1 (pv 6) pe_str ⟨rfl, rfl, rfl, rfl⟩))
    (pss_one (ps_ret (pe_op op_cat (pv 1) (pe_lst (pa_cons (pe_tup (pa_cons pe_str (pa_cons pe_str (pa_cons (pv 6) pa_nil)))) (pa_cons (pe_tup (pa_cons pe_str (pa_cons pe_str (pa_cons (pe_callTy (show CallR _ (.type "list") rListD from call_listD rfl) (by rfl) T.n_list (by decide +kernel) (pa_cons (pv 0) pa_nil)) pa_nil)))) (pa_cons (pe_tup (pa_cons pe_str (pa_cons pe_str (pa_cons pe_dnewK pa_nil)))) (pa_cons (pe_tup (pa_cons pe_str (pa_cons pe_str (pa_cons (pv 0) pa_nil)))) pa_nil)))))))))))))))), ?_⟩
  obtain ⟨rfl, hq⟩ := h
  refine q_asgG (eb_call0 (S := sH H) (σ := [none,none,none,none,none,none,none]) (E := E0) (H := H) (tb := tableT)) kp0 fun v0 H1 e1 ⟨b, eb, h0⟩ => ?_
  subst eb
  have eH : Ex H H1 := e1
  have k : Kp (sH H) H1 H1 := (kp0.ex e1).self
  refine q_lstN (K := K) (S := sH H) (ts := foundA) (ea_consT (tw_tab (ds := []) (ew_str "absent" (by decide +kernel)) (ew_str "a" (by decide +kernel)) (eb_var (i := 0) rfl h0) ewa_nil (by decide)) (ea_consT (tw_tab (ds := []) (ew_str "absent" (by decide +kernel)) (ew_str "d" (by decide +kernel)) (eb_var (i := 0) rfl h0) ewa_nil (by decide)) (ea_consT (tw_tab (ds := []) (ew_str "absent" (by decide +kernel)) (ew_str "" (by decide +kernel)) (eb_var (i := 0) rfl h0) ewa_nil (by decide)) (ea_consT (tw_tab (ds := [.none]) (ew_str "absent" (by decide +kernel)) (ew_str "h" (by decide +kernel)) (eb_var (i := 0) rfl h0) (ewa_cons ew_non ewa_nil) (by decide)) ea_nilT)))) (by decide) k fun p vs2 H2 e2 hp hE => ?_
  replace eH := eH.trans e2
  have hpH : H p = none := Evl.fresh_back eH hp
  have F0 := Fnd.new (k.ex e2).self hp hE
  replace h0 := h0.ex ((ws_ex e2).trans (sU_ex (o := .lst vs2) hp))
  replace eH : Ex H (upd H2 p (.lst vs2)) := Ex.mut eH hpH
  generalize (upd H2 p (.lst vs2)) = G2 at eH h0 F0
  refine q_asgG (show EWL K (sU (sH H) p) _ _ G2 lot1 from el_lstT (ea_consT (tw_dat (ew_tup (ewa_cons (ew_str "b/c" (by decide +kernel)) (ewa_cons (ew_tup (ewa_cons (ew_str "b/c" (by decide +kernel)) ewa_nil) (by decide)) ewa_nil)) (by decide))) (ea_consT (tw_dat (ew_tup (ewa_cons (ew_str "d" (by decide +kernel)) (ewa_cons (ew_tup ewa_nil (by decide)) ewa_nil)) (by decide))) (ea_consT (tw_dat (ew_tup (ewa_cons (ew_str "a" (by decide +kernel)) (ewa_cons (ew_tup (ewa_cons (ew_str "a" (by decide +kernel)) (ewa_cons (ew_str "b/c" (by decide +kernel)) ewa_nil)) (by decide)) ewa_nil)) (by decide))) (ea_consT (tw_dat (ew_tup (ewa_cons (ew_str "h" (by decide +kernel)) (ewa_cons (ew_tup ewa_nil (by decide)) ewa_nil)) (by decide))) (ea_consT (tw_dat (ew_tup (ewa_cons (ew_str "h" (by decide +kernel)) (ewa_cons (ew_lst (ewa_cons (ew_str "h" (by decide +kernel)) ewa_nil) (by decide)) ewa_nil)) (by decide))) (ea_consT (tw_dat (ew_tup (ewa_cons (ew_str "a" (by decide +kernel)) (ewa_cons (ew_tup (ewa_cons (ew_str "b/c" (by decide +kernel)) (ewa_cons (ew_str "a" (by decide +kernel)) (ewa_cons (ew_str "d" (by decide +kernel)) ewa_nil))) (by decide)) ewa_nil)) (by decide))) ea_nilT)))))) (by decide)) F0.k fun v2 H3 e3 ⟨pl, ls, ev, hl, hlE⟩ => ?_
  subst ev
  replace eH := eH.trans e3
  replace h0 := h0.ex (ws_ex e3)
  replace F0 := F0.ex e3
  refine q_asgG (show EWL K (sU (sH H) p) _ _ H3 (lot1 ++ lot2) from el_catT (el_varT (i := 2) rfl hl hlE) (el_lstT (ea_consT (tw_dat (ew_tup (ewa_cons (ew_str "h" (by decide +kernel)) (ewa_cons (ew_tup (ewa_cons (ew_str "h" (by decide +kernel)) (ewa_cons (ew_str "d" (by decide +kernel)) ewa_nil)) (by decide)) ewa_nil)) (by decide))) (ea_consT (tw_dat (ew_tup (ewa_cons (ew_str "h" (by decide +kernel)) (ewa_cons (ew_tup (ewa_cons (ew_str "" (by decide +kernel)) (ewa_cons (ew_str "h" (by decide +kernel)) ewa_nil)) (by decide)) ewa_nil)) (by decide))) (ea_consT (tw_dat (ew_tup (ewa_cons (ew_str "h" (by decide +kernel)) (ewa_cons (ew_tup (ewa_cons (ew_str "h" (by decide +kernel)) (ewa_cons (ew_str "h" (by decide +kernel)) ewa_nil)) (by decide)) ewa_nil)) (by decide))) (ea_consT (tw_dat (ew_tup (ewa_cons (ew_str "z" (by decide +kernel)) (ewa_cons (ew_tup ewa_nil (by decide)) ewa_nil)) (by decide))) (ea_consT (tw_dat (ew_tup (ewa_cons (ew_str "h" (by decide +kernel)) (ewa_cons (ew_tup (ewa_cons (ew_str "h" (by decide +kernel)) (ewa_cons (ew_str "H" (by decide +kernel)) ewa_nil)) (by decide)) ewa_nil)) (by decide))) ea_nilT))))) (by decide)) (by decide)) F0.k fun v2 H4 e4 ⟨pl, ls, ev, hl, hlE⟩ => ?_
  subst ev
  replace eH := eH.trans e4
  replace h0 := h0.ex (ws_ex e4)
  replace F0 := F0.ex e4
  refine q_asgG (show EWL K (sU (sH H) p) _ _ H4 ((lot1 ++ lot2) ++ lot3) from el_catT (el_varT (i := 2) rfl hl hlE) (el_lstT (ea_consT (tw_dat (ew_tup (ewa_cons (ew_str "h" (by decide +kernel)) (ewa_cons (ew_str "h" (by decide +kernel)) ewa_nil)) (by decide))) (ea_consT (tw_dat (ew_tup (ewa_cons (ew_int 5) (ewa_cons (ew_tup ewa_nil (by decide)) ewa_nil)) (by decide))) ea_nilT)) (by decide)) (by decide)) F0.k fun v2 H5 e5 ⟨pl, ls, ev, hl, hlE⟩ => ?_
  subst ev
  replace eH := eH.trans e5
  replace h0 := h0.ex (ws_ex e5)
  replace F0 := F0.ex e5
  rw [lot_eq] at hlE
  have hln : ls.length = lotL.length := by rw [hlE.length, List.length_map]
  have nlp : pl ≠ p := fun e => (wS_get hl).1 (Or.inr e)
  clear hp hE
  refine ⟨_, rfl, pl, rfl, ⟨ls, sq_of (wS_get hl).2⟩, ?_⟩
  refine for_it (walk_list (xs := ls)) (fun i σ H' => ∃ (v3 v4 v5 : Option V), σ = [some (.ref b), some (.ref p), some (.ref pl), v3, v4, v5, none] ∧ Ex H H' ∧ TabA (wS (sU (sH H) p) H') b tableT ∧ wS (sU (sH H) p) H' pl = some (.lst ls) ∧ EachIs (ThR K (wS (sU (sH H) p) H')) ls (lotL.map lotOf) ∧ Fnd K (sU (sH H) p) H' p (foundA ++ (lotL.take i).map bentT))
    ⟨none, none, none, rfl, eH, h0, hl, hlE, by rw [List.take_zero, List.map_nil, List.append_nil]; exact F0⟩ (fun i σ H' _ ⟨_, _, _, _, _, _, h, _⟩ => sq_of (wS_get h).2) ?_ ?_
  · rintro i x σ H' H'' hi ⟨v3, v4, v5, rfl, eH, h0, hl, hlE, F1⟩ ⟨rfl, hy⟩
    have hx : ls[i]? = some x := hy
    obtain ⟨t, ht, hr⟩ := each_get hlE hx
    rw [List.getElem?_map] at ht
    obtain ⟨⟨k0, d0⟩, hk, rfl⟩ : ∃ z, lotL[i]? = some z ∧ lotOf z = t := by
      cases hh : lotL[i]? with
      | none => rw [hh] at ht; cases ht
      | some z => rw [hh] at ht; exact ⟨z, rfl, by cases ht; rfl⟩
    obtain ⟨a, xs, rfl, ha, hda, _, _⟩ := (show Dq (wS (sU (sH H) p) H'') x (.tuple [kD k0, d0]) from hr).tupE rfl
    obtain ⟨x0, x1, rfl, g0, g1⟩ : ∃ x0 x1, xs = [x0, x1] ∧ Dq (wS (sU (sH H) p) H'') x0 (kD k0) ∧ Dq (wS (sU (sH H) p) H'') x1 d0 := by
      cases (show DqAll (wS (sU (sH H) p) H'') xs [kD k0, d0] from hda) with | cons g0 t => cases t with | cons g1 t => cases t with | nil => exact ⟨_, _, rfl, g0, g1⟩
    obtain rfl := dq_kD g0
    refine ⟨a, _, rfl, st_of (wS_get ha).2, rfl, _, _, rfl, _, _, rfl, rfl, ?_⟩
    obtain ⟨kvs, hb, hkv⟩ := h0
    have hbl : kvs.length < sizeLine := by rw [hkv.length]; exact Nat.lt_of_lt_of_le (by decide : tableT.length < 10) (by omega)
    refine ⟨_, rfl, b, kvs, rfl, Or.inl (wS_get hb).2, fun c hc => ?_⟩
    refine ⟨_, rfl, _, rfl, _, rfl, c, _, rfl, DPut.k (k := k0) upd_same hbl, ?_⟩
    have e6 : Ex H'' (upd (upd H'' c (.dK kvs)) c (.dK (putK kvs k0 x1))) := Ex.mut (Ex.new hc) hc
    have nS : ¬ sU (sH H) p c := F1.k.fresh hc
    have h5 : TabA (wS (sU (sH H) p) (upd (upd H'' c (.dK kvs)) c (.dK (putK kvs k0 x1)))) c (putP tableT k0 d0) := ⟨_, wS_put nS upd_same, each_put (each_dq (ws_ex e6) hkv) (Dq.same (ws_ex e6) _ _ g1)⟩
    have h0 : TabA (wS (sU (sH H) p) (upd (upd H'' c (.dK kvs)) c (.dK (putK kvs k0 x1)))) b tableT := TabA.ex ⟨kvs, hb, hkv⟩ (ws_ex e6)
    replace hl := (ws_ex e6) _ _ hl
    replace hlE := each_th (ws_ex e6) hlE
    replace eH := eH.trans e6
    have F2 := F1.ex e6
    generalize (upd (upd H'' c (.dK kvs)) c (.dK (putK kvs k0 x1))) = H6 at h5 h0 hl hlE eH F2
    refine s_appF (K := K) (t := bentT (k0, d0)) F2 ?_ rfl (tw_tab (ds := []) (ew_str "absent" (by decide +kernel)) (ew_str "h" (by decide +kernel)) (eb_var (i := 5) rfl h5) ewa_nil (by decide)) fun H7 m7 F7 => ?_
    · rw [List.length_append, List.length_map, List.length_take]
      have : foundA.length = 4 := rfl
      have : lotL.length = 13 := rfl
      omega
    · refine ⟨_, _, _, rfl, fun a o h => m7 a o (ne_of_none h hpH) (eH a o h), h0.ex (ap_ex (Or.inr rfl) m7), (ap_ex (Or.inr rfl) m7) _ _ hl, each_th (ap_ex (Or.inr rfl) m7) hlE, ?_⟩
      have : lotL.take (i + 1) = lotL.take i ++ [(k0, d0)] := by rw [List.take_add_one, hk]; rfl
      rw [this, List.map_append, ← List.append_assoc]
      exact F7
  · rintro σ H' ⟨v3, v4, v5, rfl, eH, h0, hl, hlE, F1⟩
    rw [hln, List.take_length] at F1
    obtain ⟨kvs, hb, hkv⟩ := h0
    refine ⟨_, rfl, b, kvs, rfl, Or.inl (wS_get hb).2, fun c hc => ?_⟩
    have hv : (valV kvs (.inr "a")).isSome = true := by rw [← valV_any, each_any hkv]; decide +kernel
    obtain ⟨v, hv⟩ := Option.isSome_iff_exists.mp hv
    refine ⟨_, rfl, c, rfl, Or.inl ⟨_, Or.inl upd_same⟩, _, .inr "a", v, upd_same, rfl, hv, ?_⟩
    have e6 : Ex H' (upd (upd H' c (.dK kvs)) c (.dK (dropK kvs (.inr "a")))) := Ex.mut (Ex.new hc) hc
    have nS : ¬ sU (sH H) p c := F1.k.fresh hc
    have h6 : TabA (wS (sU (sH H) p) (upd (upd H' c (.dK kvs)) c (.dK (dropK kvs (.inr "a"))))) c (dropP tableT (.inr "a")) := ⟨_, wS_put nS upd_same, each_drop (each_dq (ws_ex e6) hkv)⟩
    have h0 : TabA (wS (sU (sH H) p) (upd (upd H' c (.dK kvs)) c (.dK (dropK kvs (.inr "a"))))) b tableT := TabA.ex ⟨kvs, hb, hkv⟩ (ws_ex e6)
    replace eH := eH.trans e6
    have F2 := F1.ex e6
    generalize (upd (upd H' c (.dK kvs)) c (.dK (dropK kvs (.inr "a")))) = H6 at h6 h0 eH F2
    refine s_retF (us := absentZ) F2 rfl (el_lstT (ea_consT (tw_tab (ds := []) (ew_str "absent" (by decide +kernel)) (ew_str "h" (by decide +kernel)) (eb_var (i := 6) rfl h6) ewa_nil (by decide)) (ea_consT (tw_dat (ew_tup (ewa_cons (ew_str "absent" (by decide +kernel)) (ewa_cons (ew_str "h" (by decide +kernel)) (ewa_cons (ew_keys (i := 0) rfl h0 (by decide +kernel)) ewa_nil))) (by decide))) (ea_consT (tw_tab (ds := []) (ew_str "absent" (by decide +kernel)) (ew_str "h" (by decide +kernel)) eb_new ewa_nil (by decide)) (ea_consT (tw_tab (ds := []) (ew_str "absent" (by decide +kernel)) (ew_str "h/" (by decide +kernel)) (eb_var (i := 0) rfl h0) ewa_nil (by decide)) ea_nilT)))) (by decide)) (by decide) fun x vs H10 e10 hx hE => ?_
    have hxH : H x = none := Evl.fresh_back (eH.trans e10) hx
    exact hq x vs _ ((eH.trans e10).trans (Ex.new hx)) (wS_put (fun h => h hxH) upd_same) (each_th (sU_sub.trans (ws_ex (Ex.new hx))) hE)
end
end KF

set_option Elab.async false
set_option linter.all false
set_option maxRecDepth 100000
set_option maxHeartbeats 4000000
namespace KF
open PySem PySem.Spec PyProof.Rows L2 LF
theorem sort_is {l m : List Str} (hp : l.isPerm m = true) (hs : (m.Pairwise fun a b => pLe a b = true)) (ha : ∀ a ∈ m, ∀ b ∈ m, pLe a b = true → pLe b a = true → a = b) : l.mergeSort pLe = m := by
  have hq := List.isPerm_iff.mp hp
  refine List.Perm.eq_of_pairwise (le := fun a b => pLe a b = true) (fun a b h1 h2 h3 h4 => ?_) (List.pairwise_mergeSort pLe_trans pLe_total _) hs ((List.mergeSort_perm l pLe).trans hq)
  exact ha a (hq.mem_iff.mp ((List.mergeSort_perm l pLe).mem_iff.mp h1)) b h2 h3 h4
def plainB : V → Bool
  | .non => true
  | .int _ => true
  | .str z => decide (z.length ≤ 1000000)
  | _ => false
theorem plainB_ok {v : V} (h : plainB v = true) : Plain v := by
  cases v with
  | non => exact Or.inl rfl
  | int i => exact Or.inr (Or.inl ⟨i, rfl⟩)
  | str z => exact Or.inr (Or.inr ⟨z, rfl, of_decide_eq_true h⟩)
  | _ => cases h
theorem okU_of {es : List (Str × V)} (h1 : (es.all fun e => isPl e.1 && decide (e.1.length ≤ 1000000) && (plainB e.2 && itemV e.2)) = true) (h2 : ∀ e ∈ es, ∀ s ∈ begs e.1, valV (kv es) (.inr s) = none ∨ valV (kv es) (.inr s) = some .non) (nd : (es.map (·.1)).Nodup) : OkU es := by
  have h : ∀ e ∈ es, (isPl e.1 = true ∧ e.1.length ≤ 1000000) ∧ (Plain e.2 ∧ itemV e.2 = true) := fun e he => by
    have := List.all_eq_true.mp h1 e he
    rw [Bool.and_eq_true, Bool.and_eq_true, Bool.and_eq_true, decide_eq_true_eq] at this
    exact ⟨this.1, plainB_ok this.2.1, this.2.2⟩
  exact ⟨fun e he => (h e he).1, fun e he => (h e he).2, h2, nd⟩
def es1 : List (Str × V) := [("a", .str "b/c"), ("d/f", .int 1)]
def es2 : List (Str × V) := [("b/c", .str "d"), ("d/e", .str "a"), ("d/g", .non), ("h", .str "h")]
def fE1 : List (Str × V) := [("a", .str "b/c"), ("d", .non), ("d/f", .int 1)]
def fE2 : List (Str × V) := [("b", .non), ("d", .non), ("h", .str "h"), ("b/c", .str "d"), ("d/e", .str "a"), ("d/g", .non)]
theorem okU1 : OkU es1 := okU_of (by decide +kernel) (by decide +kernel) (by decide +kernel)
theorem okU2 : OkU es2 := okU_of (by decide +kernel) (by decide +kernel) (by decide +kernel)
theorem pk_is {es fE : List (Str × V)} (hp : ((fullU es).map (·.1)).isPerm (fE.map (·.1)) = true) (hs : ((fE.map (·.1)).Pairwise fun a b => pLe a b = true)) (ha : ∀ a ∈ fE.map (·.1), ∀ b ∈ fE.map (·.1), pLe a b = true → pLe b a = true → a = b)
    (hv : ((fE.map (·.1)).map fun p => (p, (valV (kv (fullU es)) (.inr p)).getD .non)) = fE) : pkE es = fE := by
  unfold pkE
  rw [show ((fullU es).map (·.1)).mergeSort (PySem.W.dataLe false keyD) = fE.map (·.1) from sort_is hp hs ha]
  exact hv
theorem pk1 : pkE es1 = fE1 := pk_is (by decide +kernel) (by decide +kernel) (by decide +kernel) (by decide +kernel)
theorem pk2 : pkE es2 = fE2 := pk_is (by decide +kernel) (by decide +kernel) (by decide +kernel) (by decide +kernel)
end KF

set_option Elab.async false
set_option linter.all false
set_option maxRecDepth 100000
set_option maxHeartbeats 4000000
namespace KF
open PySem PySem.Spec PyProof.Rows L2 LF
def FS : List (Str × List (Str × V)) := [("p", fE1), ("q", fE2)]
theorem farmOk : FarmOk FS := by
  refine ⟨by decide +kernel, by decide +kernel, fun f hf => ?_, by decide⟩
  rcases List.mem_cons.mp hf with rfl | hf
  · exact ⟨pk1 ▸ pkE_ok okU1 (by decide +kernel), by decide⟩
  · rcases List.mem_cons.mp hf with rfl | hf
    · exact ⟨pk2 ▸ pkE_ok okU2 (by decide +kernel), by decide⟩
    · cases hf
theorem szI_of {its : List (Str × List V)} {n : Nat} (h0 : its.length ≤ n) (h : (its.all fun r => decide (r.2.length ≤ n) && (r.2.all fun x => plainB x && itemV x) && (isPl r.1 && decide (r.1.length ≤ 1000000))) = true) : SzI its n := by
  have h2 : ∀ r ∈ its, (r.2.length ≤ n ∧ ∀ x ∈ r.2, Plain x ∧ itemV x = true) ∧ (isPl r.1 = true ∧ r.1.length ≤ 1000000) := fun r hr => by
    have := List.all_eq_true.mp h r hr
    rw [Bool.and_eq_true, Bool.and_eq_true, Bool.and_eq_true, decide_eq_true_eq, decide_eq_true_eq] at this
    refine ⟨⟨this.1.1, fun x hx => ?_⟩, this.2⟩
    have := List.all_eq_true.mp this.1.2 x hx
    rw [Bool.and_eq_true] at this
    exact ⟨plainB_ok this.1, this.2⟩
  exact ⟨h0, fun r hr => (h2 r hr).1, fun r hr => (h2 r hr).2⟩
theorem farmX : FarmX FS := by
  refine ⟨farmOk, ⟨szI_of (by decide +kernel) (by decide +kernel), by decide +kernel, by decide +kernel⟩, by decide +kernel, by decide +kernel, by decide +kernel⟩
theorem farmX0 : FarmX [] := by
  refine ⟨⟨by decide +kernel, by decide +kernel, fun f hf => (nomatch hf), by decide⟩, ⟨szI_of (by decide +kernel) (by decide +kernel), by decide +kernel, by decide +kernel⟩, by decide +kernel, by decide +kernel, by decide +kernel⟩
theorem tgt_FS : targetsE (itemsE FS) = (["a", "d", "h", "b/c"] : List Str) := sort_is (m := ["a", "d", "h", "b/c"]) (by decide +kernel) (by decide +kernel) (by decide +kernel)
theorem tgt_0 : targetsE (itemsE []) = [] := sort_is (by decide +kernel) (by decide +kernel) (by decide +kernel)
theorem addT_new {dk : List Str} {t : Str} (h : t ∉ dk) : addT dk t = dk ++ [t] := by unfold addT; rw [if_neg h]
theorem foldT_nd : ∀ {l acc : List Str}, acc.Nodup → (l.foldl addT acc).Nodup
  | [], _, h => h
  | t :: l, acc, h => foldT_nd (l := l) (addT_nd h)
theorem foldT_id : ∀ {l acc : List Str}, (acc ++ l).Nodup → l.foldl addT acc = acc ++ l
  | [], acc, _ => (List.append_nil acc).symm
  | t :: l, acc, h => by
    have hn : t ∉ acc := fun hm => by
      rw [List.nodup_append] at h
      exact h.2.2 t hm t List.mem_cons_self rfl
    rw [List.foldl_cons, addT_new hn, foldT_id (by rw [List.append_assoc]; exact h), List.append_assoc]; rfl
def placesC (d : PyData) : Bool := (isTup d && (items d).all pathD) && (decide (fnd ((items d).map txt) = (items d).map txt) && decide (((items d).map txt).Pairwise fun a b => pLe a b = true))
theorem places_C (d : PyData) : placesD d = placesC d := by
  unfold placesD placesC
  congr 1
  generalize (items d).map txt = l
  rw [Bool.eq_iff_iff, Bool.and_eq_true, decide_eq_true_eq, decide_eq_true_eq, decide_eq_true_eq]
  refine ⟨fun h => ?_, fun ⟨h1, h2⟩ => ?_⟩
  · have hp : (fnd l).Perm l := by
      have := List.mergeSort_perm (fnd l) pLe
      rw [show (fnd l).mergeSort pLe = l from h] at this
      exact this.symm
    have nd : l.Nodup := hp.nodup_iff.mp (foldT_nd List.nodup_nil)
    refine ⟨foldT_id (acc := []) nd, ?_⟩
    rw [← h]
    exact List.pairwise_mergeSort pLe_trans pLe_total _
  · rw [h1]
    exact List.mergeSort_of_pairwise h2
def absentR (its : List (Str × List V)) (T : List Str) (z : Str) (tb : List (Key × PyData)) : Bool :=
  (tb.map (·.1)).all isInr && ((tkeys tb).isPerm T && T.all fun t => placesC (getT tb t)) &&
  (T.all (fun t => (readS its (rowsS T tb) t).all fun p => decide (p ∈ getE (rowsS T tb) t)) && (readS its (rowsS T tb) z).all (emptyS its))
theorem absent_R {its : List (Str × List V)} {T : List Str} (h : targetsE its = T) (z : Str) (tb : List (Key × PyData)) : absentS its z tb = absentR its T z tb := by
  subst h
  unfold absentS absentR
  simp only [places_C]

theorem a1 : absentR (itemsE FS) ["a", "d", "h", "b/c"] "h" tableT = true := by decide +kernel
def resT (fs : List (Str × List (Str × V))) (T : List Str) : Th → Bool
  | .dat d => holdsD fs d
  | .tab d0 d1 tb n => isStr d0 && (pathD d1 && (decide (txt d0 = "absent") && (decide (n = 0) && absentR (itemsE fs) T (txt d1) tb)))
  | .opq => false
def okT : Th → Bool
  | .tab _ _ tb n => decide (tb.length ≤ 15) && (tb.all fun p => decide ((items p.2).length ≤ 16) && PyData.strOk (keyS p.1)) && decide (n ≤ 1)
  | _ => true
abbrev TT : List Str := ["a", "d", "h", "b/c"]
theorem right_ok : (rightT.all fun t => okT t && resT FS TT t) = true := by decide +kernel
theorem shown_ok : (wrongT.all fun t => okT t && !resT FS TT t) = true := by decide +kernel
theorem absent_ok : (absentT.all fun t => okT t && !resT FS TT t) = true := by decide +kernel
end KF

set_option Elab.async false
set_option linter.all false
set_option maxRecDepth 100000
set_option maxHeartbeats 16000000
namespace KF
open PySem PySem.Spec PyProof.Rows L2 LF
open Evl (Ev EvL EvU EvT EvA Ex sq_of st_of)
open PySem.W (EachIs)
abbrev s__law_farm : Stmt := topS 55
abbrev N__law_farm : List Str := []
theorem sc__law_farm : FnScope [] [] (defScope s__law_farm) := ⟨rfl, rfl, rfl, by decide +kernel, rfl, by decide +kernel, by decide +kernel⟩
theorem made_same {H H' : Hp} {x dx : Addr} {o1 o2 : HO} (hx : H x = none) (hd : H dx = none) (k : Keep x (upd (upd H dx o1) x o2) H') : Same H H' := fun a o e => by
  have n1 := ne_of_none e hx
  have n2 := ne_of_none e hd
  refine k a o n1 ?_
  rw [upd_ne n1, upd_ne n2]; exact e
theorem make_ok {CK CM : Addr} {H : Hp} {e x dx : Addr} {es : List (Str × V)} {R : VK} {E : XK} (hx : H x = none) (hd : H dx = none) (he : H e = some (.dK (kv es))) (ok : OkU es) (hl : (pkE es).length ≤ 40) (hq : ∀ H', Same H H' → PkAt CK H' x (pkE es) → R .non H') :
    spIn CK CM (.ref x :: ([.ref e] ++ [])) (upd (upd H dx (.own x)) x (.ins CK dx [])) R E := by
  have n1 := ne_of_none he hx
  have n2 := ne_of_none he hd
  refine ⟨x, dx, .ref e, es, rfl, upd_same, Or.inr ⟨e, rfl, by rw [upd_ne n1, upd_ne n2]; exact he⟩, ok, by rw [← pkE_len]; omega, fun _ H' k pk => hq H' (made_same hx hd k) pk, fun h => absurd hl (by omega)⟩
/-- a package is as it was when an empty dict elsewhere has changed -/
theorem PkAt.keepE {C p b : Addr} {H H' : Hp} {es : List (Str × V)} (h : PkAt C H p es) (hb : H b = some (.dK [])) (k : Keep b H H') (n1 : kv es ≠ []) (n2 : kv (solidE es) ≠ []) (n3 : roomsE es ≠ []) : PkAt C H' p es := by
  obtain ⟨dx, d, ⟨x, h1, h2, rs, r1, r2⟩, h3⟩ := h
  have ne : ∀ {a : Addr} {o : HO}, H a = some o → o ≠ .dK [] → H' a = some o := fun {a o} e n => k a o (fun z => n (by rw [z, hb] at e; exact (Option.some.inj e).symm)) e
  refine ⟨dx, d, ⟨x, ne h1 (fun z => nomatch z), ne h2 (fun z => n2 (HO.dK.inj z)), rs, ⟨ne r1.d (fun z => n3 ?_), fun y hy => ne (r1.l y hy) (fun z => nomatch z)⟩, r2⟩, ne h3 (fun z => n1 (HO.dK.inj z))⟩
  have : rkv rs = [] := HO.dK.inj z
  have : rs = [] := List.map_eq_nil_iff.mp this
  rw [← r2, this]; rfl
def spFarm (C : Addr) : Sp := fun vs H Q _ => vs = [] ∧ ∀ (H' : Hp) (pk : Addr), Ex H H' → FarmA C H' pk FS → Q (.ref pk) H'
section
variable {P : Program} {w : World} {K : PySem.W.Frag} {mg : Str → Option Value} {base : Heap} {tk1 tk2 : Tok}
theorem ok_lfarm {f C CM fI : Addr} {fd fdI : FuncData} (F : Fun K "_law_farm" "_law_farm" s__law_farm f fd) (M : Mk K C fI) (FI : FnOk P w K mg base (L2.CX P w) 8 fI fdI ["self", "entries"] (spIn C CM)) (gC : mg "Package" = some (.ref C)) (bI : Binds K fdI ["self", "entries"] []) : FnOk P w K mg base CX0 10 f fd [] (spFarm C) := by
  refine F.ok sc__law_farm (fun vs H Q E h => by obtain ⟨rfl, _⟩ := h; rfl) (fun cdv A outer s H vs Q E hr h => ?_)
  refine ⟨_, pss_one (ps_ret (pe_disp (pps_cons pe_str (pe_make M FI (hr.mono (by decide)) rfl gC bI .nil passL (pa_cons (pe_disp (pps_cons pe_str pe_str (pps_cons pe_str pe_int pps_nil)) rfl rfl (fun h => nomatch h) (by decide)) pa_nil))
    (pps_cons pe_str (pe_make M FI (hr.mono (by decide)) rfl gC bI .nil passL (pa_cons (pe_disp (pps_cons pe_str pe_str (pps_cons pe_str pe_str (pps_cons pe_str pe_non (pps_cons pe_str pe_str pps_nil)))) rfl rfl (fun h => nomatch h) (by decide)) pa_nil)) pps_nil)) rfl rfl (fun h => nomatch h) (by decide))), ?_⟩
  obtain ⟨rfl, hq⟩ := h
  intro pk hpk
  intro e1 he1
  refine ⟨upd_same, kv es1, rfl, by decide, ?_⟩
  rw [merge_nil (by decide +kernel)]
  have x1 : Ex (upd H pk (.dK [])) (upd (upd (upd H pk (.dK [])) e1 (.dK [])) e1 (.dK (kv es1))) := Ex.mut (Ex.new he1) he1
  have y1 : (upd (upd (upd H pk (.dK [])) e1 (.dK [])) e1 (.dK (kv es1))) e1 = some (.dK (kv es1)) := upd_same
  have hk0 : (upd H pk (.dK [])) pk = some (.dK []) := upd_same
  have x0 : Ex H (upd H pk (.dK [])) := Ex.new hpk
  generalize (upd (upd (upd H pk (.dK [])) e1 (.dK [])) e1 (.dK (kv es1))) = H2 at x1 y1
  intro p1 d1 hp1 hd1 hn1
  refine make_ok hp1 hd1 y1 okU1 (by rw [pk1]; decide) fun H3 s3 pk3 => ⟨rfl, ?_⟩
  rw [pk1] at pk3
  have xk3 : Ex (upd H pk (.dK [])) H3 := fun a o h => s3 _ _ (x1 _ _ h)
  intro e2 he2
  refine ⟨upd_same, kv es2, rfl, by decide, ?_⟩
  rw [merge_nil (by decide +kernel)]
  have x4 : Ex H3 (upd (upd H3 e2 (.dK [])) e2 (.dK (kv es2))) := Ex.mut (Ex.new he2) he2
  have y4 : (upd (upd H3 e2 (.dK [])) e2 (.dK (kv es2))) e2 = some (.dK (kv es2)) := upd_same
  generalize (upd (upd H3 e2 (.dK [])) e2 (.dK (kv es2))) = H4 at x4 y4
  intro p2 d2 hp2 hd2 hn2
  refine make_ok hp2 hd2 y4 okU2 (by rw [pk2]; decide) fun H5 s5 pk5 => ⟨rfl, ?_⟩
  rw [pk2] at pk5
  have x5 : Ex H3 H5 := fun a o h => s5 _ _ (x4 _ _ h)
  have hk5 : H5 pk = some (.dK []) := x5 _ _ (xk3 _ _ hk0)
  refine ⟨hk5, [(.inr "p", .ref p1), (.inr "q", .ref p2)], rfl, (by show 2 ≤ 15; decide), ?_⟩
  rw [merge_nil (b := [(.inr "p", .ref p1), (.inr "q", .ref p2)]) (show (([.inr "p", .inr "q"] : List Key)).Nodup by decide +kernel)]
  have kp : Keep pk H5 (upd H5 pk (.dK [(.inr "p", .ref p1), (.inr "q", .ref p2)])) := fun a o n h => by rw [upd_ne n]; exact h
  refine hq _ pk (Ex.mut ((x0.trans xk3).trans x5) hpk) ⟨_, ["p", "q"], upd_same, rfl, List.Perm.refl _, fun f hf => ?_⟩
  rcases List.mem_cons.mp hf with rfl | hf
  · exact ⟨p1, rfl, (pk3.same x5).keepE hk5 kp (by decide +kernel) (by decide +kernel) (by decide +kernel)⟩
  · rcases List.mem_cons.mp hf with rfl | hf
    · exact ⟨p2, rfl, pk5.keepE hk5 kp (by decide +kernel) (by decide +kernel) (by decide +kernel)⟩
    · cases hf
end
end KF

set_option Elab.async false
set_option linter.all false
set_option maxRecDepth 100000
set_option maxHeartbeats 4000000
namespace LF
open PySem PySem.Spec PyProof.Rows L2
/-- the heap at the law's entry: what a promise that is asked where no repr is under way gives -/
theorem lawG_call {P : Program} {w : World} {K : PySem.W.Frag} {mg mb : Str → Option Value} {k : Nat} {fa a : Addr} {fd : FuncData} {x : Str} {sp : Sp} {s1 : Shared} {us : List Value} {ns : List Int}
    (KX : K.In s1.heap) (hns : s1.heap.Ns mainGlobals mg) (hbn : s1.heap.Ns builtinsNs mb) (hbb : ∀ y : Str, y ≠ "__name__" → mb y = bootBuiltins y) (hlim : s1.heap.NoLimit) (hgens : s1.gens = #[])
    (ha : s1.heap.get? a = some { cls := .type "list", data := .seq us.toArray }) (hi : IntsAre us ns) (hl : ns.length ≤ sizeLine) (hr : Room k callerA)
    (F : ∀ base : Heap, K.In base → base.Ns mainGlobals mg → FnG P w K mg base CX0 k fa fd [x] sp)
    (hbind : ∀ (s : Shared) (u : Value), BindsTo s fd ⟨[u], []⟩ [(x, u)])
    (hsp : ∀ H : Hp, SqL K H a (ns.map V.int) → sp [.ref a] H (fun v _ => v = .bl true) (fun _ _ _ => False)) :
    codeAny (model P w) callerA (.call (.ref fa) ⟨[.ref a], []⟩)
      (fun r s' => r = .ok (.ret (.bool true)) ∧ OldK s1.heap s'.heap ∧ s'.os = s1.os ∧ AllBare s'.gens) s1 := by
  have hlv := hi.length
  -- from any abstract heap that tracks at most the script
  have main : ∀ H : Hp, (∀ b, H b = none ∨ ∃ o xs, H b = some (.frz o (.lst xs))) → SqL K H a (ns.map V.int) → HOk P w H s1.heap → (∀ b, H b ≠ none → b = a) → (H a ≠ none → K.lookup a = none) →
      codeAny (model P w) callerA (.call (.ref fa) ⟨[.ref a], []⟩)
        (fun r s' => r = .ok (.ret (.bool true)) ∧ OldK s1.heap s'.heap ∧ s'.os = s1.os ∧ AllBare s'.gens) s1 := by
    intro H only hS hok onlyA notK
    have dictFree : ∀ {b : Addr} {o : Obj} {es : Array DictEntry} {ep : Nat}, s1.heap.get? b = some o → o.data = .dict es ep → H b = none := by
      intro b o es ep e d
      cases q : H b with
      | none => rfl
      | some u =>
        have hb := onlyA b (by rw [q]; simp)
        rw [hb, ha] at e
        have e' := Option.some.inj e
        rw [← e'] at d
        cases d
    have nsH : ∀ {b : Addr} {m : Str → Option Value}, s1.heap.Ns b m → (hidT s1.heap H).Ns b m := by
      rintro b m ⟨o, es, ep, e, d, rest⟩
      exact ⟨o, es, ep, hidT_get e (dictFree e d), d, rest⟩
    have KH : K.In (hidT s1.heap H) := by
      intro b o e
      refine hidT_get (KX b o e) ?_
      cases q : H b with
      | none => rfl
      | some u =>
        have hb := onlyA b (by rw [q]; simp)
        subst hb
        have := notK (by rw [q]; simp)
        rw [this] at e
        cases e
    have lim2 : (hidT s1.heap H).NoLimit := by
      obtain ⟨mc, h1, h2⟩ := hlim
      exact ⟨mc, nsH h1, h2⟩
    have hM : Mod K mg (hidT s1.heap H) := ⟨KH, nsH hns, ⟨mb, nsH hbn, hbb⟩, lim2⟩
    have nof : ∀ b : Addr, b ∈ frs ([] : List Env) → False := fun b hb => nomatch (show b ∈ ([] : List Addr) from hb)
    have e0 : Env0 P w K mg (hidT s1.heap H) callerA [] s1 H :=
      ⟨rfl, hM, fun b o e => of_hidT e, Nat.le_of_eq (hidT_size _ _), trivial, fun b hb => (nof b hb).elim, hok, .of_eq hgens⟩
    have run := (F _ KH (nsH hns)).go callerA [] s1 H ⟨[.ref a], []⟩ [.ref a] [.ref a] _ _ rfl hr e0 (hbind s1 (.ref a)) (.cons rfl .nil) (hsp H hS)
    refine codeAny_mono run ?_
    intro r s' h
    cases r with
    | error e => exact h.elim
    | ok fl =>
      cases fl with
      | next => exact h.elim
      | brk => exact h.elim
      | cont => exact h.elim
      | ret u =>
        obtain ⟨v, H', hos, hbare, un, hok', hv, hq⟩ := h
        have hq' : v = V.bl true := hq
        subst hq'
        have hu : u = Value.bool true := hv
        subst hu
        refine ⟨rfl, OldK.of_keep ?_, hos, hbare⟩
        intro b o e
        rcases only b with q | ⟨ob, xs, q⟩
        · exact un.keep b o e q (fun z => nof b z) (fun z => nomatch z)
        · have g1 := (hok b _ q).1
          have g2 := (hok' b _ (un.frzs b ob _ q)).1
          rw [e] at g1
          rw [Option.some.inj g1]
          exact g2
  have rv := vals_ints hi
  cases hk : K.lookup a with
  | some o =>
    have e := KX a o hk
    rw [ha] at e
    have e' := Option.some.inj e
    subst e'
    refine main (fun _ => none) (fun _ => Or.inl rfl) (Or.inr ⟨_, us.toArray, _, hk, rfl, rfl, rfl, ?_, ?_⟩) (fun b u z => nomatch (show (none : Option HO) = some u from z)) (fun b z => absurd rfl z) (fun z => absurd rfl z)
    · rw [List.size_toArray, hlv]; exact hl
    · simpa using rv
  | none =>
    let O : Obj := { cls := .type "list", data := .seq us.toArray }
    have at1 : ∀ b : Addr, b = a → (fun c : Addr => if c = a then some (HO.frz O (.lst (ns.map V.int))) else none) b = some (HO.frz O (.lst (ns.map V.int))) := fun b hb => if_pos hb
    have at0 : ∀ b : Addr, b ≠ a → (fun c : Addr => if c = a then some (HO.frz O (.lst (ns.map V.int))) else none) b = none := fun b hb => if_neg hb
    refine main (fun c => if c = a then some (HO.frz O (.lst (ns.map V.int))) else none) ?_ (Or.inl (Or.inr ⟨O, at1 a rfl⟩)) ?_ ?_ (fun _ => hk)
    · intro b
      by_cases hb : b = a
      · exact Or.inr ⟨O, _, at1 b hb⟩
      · exact Or.inl (at0 b hb)
    · intro b u z
      by_cases hb : b = a
      · have z' := (at1 b hb).symm.trans z
        have z2 := Option.some.inj z'
        subst z2
        subst hb
        exact ⟨ha, by rw [List.length_map]; exact hl, us, _, rv, ha⟩
      · have z' := (at0 b hb).symm.trans z
        cases z'
    · intro b z
      by_cases hb : b = a
      · exact hb
      · exact absurd (at0 b hb) z
theorem walkG {l : PySem.W.OpenLaw} {n k : Nat} {q : Program} {loose : List Str} {XP : (Str → Option Value) → Heap → Prop} {YP : World → Heap → Prop} {d : DefRec} {K : Params → PySem.W.Frag} {sp : PySem.W.Frag → Sp} {x : Str}
    (hn : l.most = some n) (hn2 : n ≤ sizeLine) (hdf : d.params.defaults = []) (hr : Room k callerA) (hY : ∀ (w : World) (h : Heap), YP w h → (K w.params).In h)
    (F : ∀ (w : World) (mg : Str → Option Value) (fa : Addr) (h : Heap), (K w.params).In h → h.Ns mainGlobals mg → mg d.name = some (.ref fa) →
      ∃ fd : FuncData, (∀ (s : Shared) (u : Value), BindsTo s fd ⟨[u], []⟩ [(x, u)]) ∧
        ∀ base : Heap, (K w.params).In base → base.Ns mainGlobals mg → FnG l.prog w (K w.params) mg base CX0 k fa fd [x] (sp (K w.params)))
    (hsp : ∀ (K : PySem.W.Frag) (H : Hp) (a : Addr) (ns : List Int), ns.length ≤ n → SqL K H a (ns.map V.int) → sp K [.ref a] H (fun v _ => v = .bl true) (fun _ _ _ => False)) :
    PySem.W.WalkO q loose XP YP l.row.toRowW d [] (fun f vs => PySem.call f vs) := by
  refine Att.attach_call hn hdf ?_
  intro w s₀ s₁ mg mb fa o pm cd doc a us ns G Y ho hd hcd hmg hobj hints hlen hgens
  have KX := hY w _ Y
  obtain ⟨fd, hb, hF⟩ := F w mg fa _ KX G.T.g hmg
  exact lawG_call KX G.T.g G.T.b G.T.builtins G.T.nolimit hgens hobj hints (Nat.le_trans hlen hn2) hr hF hb (fun H hS => hsp _ H a ns hlen hS)
end LF

set_option Elab.async false
set_option linter.all false
set_option maxRecDepth 100000
set_option maxHeartbeats 16000000
namespace KF
open PySem PySem.Spec PyProof.Rows L2 LF
open Evl (Ev EvL EvU EvT EvA Ex sq_of st_of)
open PySem.W (EachIs)
abbrev s_law : Stmt := topS 61
abbrev N_law : List Str := ["_law_script", "_law_farm_here", "_law_thing", "_law_some"]
theorem sc_law : FnScope ["_law_script", "_law_farm_here", "_law_thing", "_law_some"] ["_law_script"] (defScope s_law) := ⟨rfl, rfl, rfl, by decide +kernel, rfl, by decide +kernel, by decide +kernel⟩
def someT : List Th := [(.dat .none), (.dat (.bool true)), (.dat (.int 0)), (.dat (.int 1)), (.dat (.str "shown")), (.dat (.str "")), (.dat (.tuple [])), (.dat (.list [])), .opq, (.dat (.tuple [(.str "shown")])), (.dat (.tuple [(.str "absent")])), (.dat (.tuple [(.str "shown"), (.str "a")])), (.dat (.tuple [(.str "absent"), (.str "a")])), .opq]
def lastT : List Th := [(.dat (.tuple [(.tuple []), (.tuple []), (.tuple [])])), (.dat (.tuple [(.int 1), (.int 2), (.int 3)])), (.dat (.tuple [(.str "absent"), (.str "h"), .none]))]
theorem some_ok : (someT.all fun t => okT t && !resT FS TT t) = true := by decide +kernel
theorem last_ok : (lastT.all fun t => okT t && !resT FS TT t) = true := by decide +kernel
def noT : Th := (.dat (.tuple [(.str "shown"), (.str ""), (.tuple []), (.tuple [(.str "")]), .none]))
def noA : Th := (.tab (.str "absent") (.str "a") [] 0)
theorem no_ok : (okT noT && resT [] [] noT) = true := by decide +kernel
theorem noA_ok : (okT noA && resT [] [] noA) = true := by decide +kernel
def spLaw (K : PySem.W.Frag) : Sp := fun vs H Q _ => ∃ (a : Addr) (ns : List Int), vs = [.ref a] ∧ SqL K H a (ns.map V.int) ∧ ns.length ≤ 63 ∧ ∀ H', Q (.bl true) H'
theorem thA_of {K : PySem.W.Frag} {H : Hp} {v : V} {fs : List (Str × List (Str × V))} {T : List Str} (hT : targetsE (itemsE fs) = T) {t : Th} (h : ThR K H v t) (ho : okT t = true) : ThA K H v fs (resT fs T t) := by
  cases t with
  | dat d => exact Or.inl ⟨d, h, rfl⟩
  | opq => exact Or.inr (Or.inr ⟨h, rfl⟩)
  | tab d0 d1 tb n =>
    obtain ⟨a, b, x0, x1, rest, e1, e2, e3, e4, e5, e6⟩ := h
    unfold okT at ho
    rw [Bool.and_eq_true, Bool.and_eq_true, decide_eq_true_eq, decide_eq_true_eq] at ho
    have hp : ∀ p ∈ tb, (items p.2).length ≤ 16 ∧ PyData.strOk (keyS p.1) = true := fun p hp => by
      have := List.all_eq_true.mp ho.1.2 p hp
      rw [Bool.and_eq_true, decide_eq_true_eq] at this
      exact this
    refine Or.inr (Or.inl ⟨a, b, x0, x1, rest, d0, d1, tb, e1, e2, e3, e4, e5, ⟨ho.1.1, fun p h => (hp p h).1, fun p h => (hp p h).2⟩, by omega, ?_⟩)
    rw [absent_R hT, e6]; rfl
abbrev rIsB : R2 := fun x y H Q => ∃ a b, x = .bl a ∧ y = .bl b ∧ Q (.bl (decide (a = b))) H
abbrev rIsNB : R2 := fun x y H Q => ∃ a b, x = .bl a ∧ y = .bl b ∧ Q (.bl (!decide (a = b))) H
theorem rv_isB {a b : Bool} {H : Hp} : Evl.RV rIsB (.bl a) (.bl b) H (.bl (decide (a = b))) := fun H1 _ _ q => ⟨a, b, rfl, rfl, q H1 (Ex.refl H1)⟩
theorem rv_isNB {a b : Bool} {H : Hp} : Evl.RV rIsNB (.bl a) (.bl b) H (.bl (!decide (a = b))) := fun H1 _ _ q => ⟨a, b, rfl, rfl, q H1 (Ex.refl H1)⟩
abbrev S0 : Addr → Prop := fun _ => False
theorem k0 {H : Hp} : Kp S0 H H := ⟨fun _ _ _ h => h, fun _ h => h.elim⟩
theorem w0 {H : Hp} : Ex H (wS S0 H) := fun a o h => wS_put (fun z => z) h
theorem ev_holds {K : PySem.W.Frag} {C pk : Addr} {σ : L2.St} {H : Hp} {ta tb : TE} {v : V} {t : Th} {fs : List (Str × List (Str × V))} {T : List Str} (hT : targetsE (itemsE fs) = T) (fx : FarmX fs) (hF : FarmA C H pk fs) (ht : ThR K H v t) (ho : okT t = true) (h1 : Ev ta σ H (.ref pk)) (h2 : Ev tb σ H v) :
    Ev (tCall (spHolds K C) [] E0 (tCons ta (tCons tb tNil))) σ H (.bl (resT fs T t)) :=
  Evl.ev_call (vs := [.ref pk, v]) (Evl.ea_cons h1 (Evl.ea_cons h2 Evl.ea_nil)) fun H3 e3 Q3 q5 E3 => ⟨pk, fs, v, _, rfl, hF.same e3, fx, thA_of hT (ht.ex e3) ho, fun H4 e4 => q5 H4 e4⟩
/-- holds of no packages -/
theorem ev_none {K : PySem.W.Frag} {C : Addr} {σ : L2.St} {H : Hp} {tb : TE} {t : Th} (h : ∀ H1, EWT K S0 tb σ H1 t) (ho : (okT t && resT [] [] t) = true) : Ev (tCall (spHolds K C) [] E0 (tCons tDNewK (tCons tb tNil))) σ H (.bl true) := fun H1 e1 Q q => by
  rw [Bool.and_eq_true] at ho
  intro p hp
  refine (h _) (upd H1 p (.dK [])) k0 _ fun v H2 e2 p2 => ?_
  have hp2 : H2 p = some (.dK []) := e2 _ _ upd_same
  refine ⟨p, [], v, true, rfl, ⟨[], [], hp2, rfl, List.Perm.refl _, fun f hf => nomatch hf⟩, farmX0, ?_, fun H3 e3 => q H3 (((Ex.new hp).trans e2).trans e3)⟩
  rw [← ho.2]
  exact thA_of tgt_0 (p2.ex wS_ex) ho.1
section
variable {P : Program} {w : World} {K : PySem.W.Frag} {mg : Str → Option Value} {base : Heap} {tk1 tk2 : Tok}
theorem ok_law {f f1 f2 f3 f4 f5 C : Addr} {fd fd1 fd2 fd3 fd4 fd5 : FuncData} (F : Fun K "law" "law" s_law f fd) (d_farm : DefAt P w K mg base "_law_farm" 10 f1 fd1 [] (spFarm C)) (d_right : DefAt P w K mg base "_law_right_papers" 2 f2 fd2 [] (spNewL K rightT))
    (d_shown : DefAt P w K mg base "_law_wrong_shown" 2 f3 fd3 [] (spNewL K wrongT)) (d_absent : DefAt P w K mg base "_law_wrong_absent" 2 f4 fd4 [] (spNewL K absentT)) (d_holds : DefAt P w K mg base "holds" 8 f5 fd5 ["packages", "thing"] (spHolds K C)) :
    FnG P w K mg base CX0 11 f fd ["_law_script"] (spLaw K) := by
  refine fnG_of F sc_law (fun vs H Q E h => ?_) (fun cdv A outer s H vs Q E gd hr h => ?_)
  · obtain ⟨a, ns, rfl, _⟩ := h
    rfl
  refine ⟨_, (pss_cons (ps_set (i := 1) sc_law.nd rfl (Or.inl rfl) (pe_callD0 d_farm (hr.mono (by decide))))
    (pss_cons (ps_for (passes_of rfl) rfl (pi_list (pe_callD0 d_right (hr.mono (by decide)))) (pg_name (i := 2) sc_law.nd rfl (Or.inl rfl)) (pss_one (ps_if (pt_cmpR op_isNB (pe_callD d_holds (hr.mono (by decide)) (pa_cons (pv 1) (pa_cons (pv 2) pa_nil))) pe_bl (nomark _)) (pss_one (ps_ret pe_bl)) pss_nil)))
    (pss_cons (ps_set (i := 3) sc_law.nd rfl (Or.inl rfl) (pe_lst (pa_cons pe_non (pa_cons pe_bl (pa_cons pe_int (pa_cons pe_int (pa_cons pe_str (pa_cons pe_str (pa_cons (pe_tup pa_nil) (pa_cons (pe_lst pa_nil) (pa_cons pe_dnewK (pa_cons (pe_tup (pa_cons pe_str pa_nil)) (pa_cons (pe_tup (pa_cons pe_str pa_nil)) (pa_cons (pe_tup (pa_cons pe_str (pa_cons pe_str pa_nil))) (pa_cons (pe_tup (pa_cons pe_str (pa_cons pe_str pa_nil))) (pa_cons (pv 1) pa_nil))))))))))))))))
    (pss_cons (ps_for (passes_of rfl) rfl (pi_list (pe_op op_cat (pe_op op_cat (pe_op op_cat (pe_callD0 d_shown (hr.mono (by decide))) (pe_callD0 d_absent (hr.mono (by decide)))) (pv 3)) (pe_lst (pa_cons (pe_tup (pa_cons (pe_tup pa_nil) (pa_cons (pe_tup pa_nil) (pa_cons (pe_tup pa_nil) pa_nil)))) (pa_cons (pe_tup (pa_cons pe_int (pa_cons pe_int (pa_cons pe_int pa_nil)))) (pa_cons (pe_tup (pa_cons pe_str (pa_cons pe_str (pa_cons pe_non pa_nil)))) pa_nil)))))) (pg_name (i := 2) sc_law.nd rfl (Or.inl rfl)) (pss_one (ps_if (pt_cmpR op_isNB (pe_callD d_holds (hr.mono (by decide)) (pa_cons (pv 1) (pa_cons (pv 2) pa_nil))) pe_bl (nomark _)) (pss_one (ps_ret pe_bl)) pss_nil)))
    (pss_one (ps_ret (pe_and (pe_cmpR op_isB (pe_callD d_holds (hr.mono (by decide)) (pa_cons pe_dnewK (pa_cons (pe_tup (pa_cons pe_str (pa_cons pe_str (pa_cons (pe_tup pa_nil) (pa_cons (pe_tup (pa_cons pe_str pa_nil)) (pa_cons pe_non pa_nil)))))) pa_nil))) pe_bl (nomark _)) (pe_one (pe_cmpR op_isB (pe_callD d_holds (hr.mono (by decide)) (pa_cons pe_dnewK (pa_cons (pe_tup (pa_cons pe_str (pa_cons pe_str (pa_cons pe_dnewK pa_nil)))) pa_nil))) pe_bl (nomark _)))))))))), ?_⟩
  obtain ⟨a, ns, rfl, hS, hlen, hq⟩ := h
  refine ⟨rfl, fun H1 pk e1 hF => ?_⟩
  clear e1
  -- the right papers
  refine ⟨rfl, fun p vs H2 e2 hp hE => ?_⟩
  have hp := (wS_get hp).2
  replace hE := each_th wS_ex hE
  replace hF := hF.same e2
  refine ⟨p, rfl, ⟨vs, sq_of hp⟩, ?_⟩
  refine for_it (walk_list (xs := vs)) (fun i σ H' => ∃ v2 : Option V, σ = [some (.ref a), some (.ref pk), v2, none] ∧ FarmA C H' pk FS ∧ H' p = some (.lst vs) ∧ EachIs (ThR K H') vs rightT) ⟨none, rfl, hF, hp, hE⟩ (fun i σ H' _ ⟨_, _, _, h, _⟩ => sq_of h) ?_ ?_
  · rintro i x σ H' H'' hi ⟨v2, rfl, hF, hp, hE⟩ ⟨rfl, hx⟩
    obtain ⟨t, ht, hR⟩ := each_get hE hx
    have ok := List.all_eq_true.mp right_ok t (List.mem_of_getElem? ht)
    rw [Bool.and_eq_true] at ok
    have c := ev_holds (T := TT) tgt_FS farmX hF hR ok.1 (Evl.ev_var (σ := [some (.ref a), some (.ref pk), some x, none]) (i := 1) rfl) (Evl.ev_var (i := 2) rfl)
    rw [ok.2] at c
    refine Evl.s_when (b := false) (Evl.et_test (Evl.ev_op c Evl.ev_c rv_isNB)) (fun h => nomatch h) (fun _ H3 e3 => ?_)
    exact ⟨_, rfl, hF.same e3, e3 _ _ hp, each_th e3 hE⟩
  rintro σ H3 ⟨v2, rfl, hF, _, _⟩
  clear hp hE
  have hop : ∃ t, TyX K (wS S0 H3) (.ref pk) t ∧ PySem.W.kitOne K t (.type "tuple") = some false := by
    obtain ⟨kvs, ks, h1, _⟩ := hF
    exact ⟨_, .base (.dK (w0 _ _ h1)), kit_ty (by decide +kernel)⟩
  refine q_asgG (show EWL K S0 _ _ H3 someT from el_lstT (ea_consT (tw_dat ew_non) (ea_consT (tw_dat (ew_bl true)) (ea_consT (tw_dat (ew_int 0)) (ea_consT (tw_dat (ew_int 1)) (ea_consT (tw_dat (ew_str "shown" (by decide +kernel))) (ea_consT (tw_dat (ew_str "" (by decide +kernel))) (ea_consT (tw_dat (ew_tup ewa_nil (by decide))) (ea_consT (tw_dat (ew_lst ewa_nil (by decide))) (ea_consT tw_new (ea_consT (tw_dat (ew_tup (ewa_cons (ew_str "shown" (by decide +kernel)) ewa_nil) (by decide))) (ea_consT (tw_dat (ew_tup (ewa_cons (ew_str "absent" (by decide +kernel)) ewa_nil) (by decide))) (ea_consT (tw_dat (ew_tup (ewa_cons (ew_str "shown" (by decide +kernel)) (ewa_cons (ew_str "a" (by decide +kernel)) ewa_nil)) (by decide))) (ea_consT (tw_dat (ew_tup (ewa_cons (ew_str "absent" (by decide +kernel)) (ewa_cons (ew_str "a" (by decide +kernel)) ewa_nil)) (by decide))) (ea_consT (tw_opq (i := 1) rfl hop) ea_nilT)))))))))))))) (by decide)) k0 fun v3 H4 e4 ⟨p3, vs3, ev, h3, h3e⟩ => ?_
  subst ev
  replace hF := hF.same e4
  refine (show EWL K S0 _ _ H4 (((wrongT ++ absentT) ++ someT) ++ lastT) from el_catT (el_catT (el_catT (el_call0 (E := E0)) (el_call0 (E := E0)) (by decide)) (el_varT (i := 3) rfl h3 h3e) (by decide)) (el_lstT (ea_consT (tw_dat (ew_tup (ewa_cons (ew_tup ewa_nil (by decide)) (ewa_cons (ew_tup ewa_nil (by decide)) (ewa_cons (ew_tup ewa_nil (by decide)) ewa_nil))) (by decide))) (ea_consT (tw_dat (ew_tup (ewa_cons (ew_int 1) (ewa_cons (ew_int 2) (ewa_cons (ew_int 3) ewa_nil))) (by decide))) (ea_consT (tw_dat (ew_tup (ewa_cons (ew_str "absent" (by decide +kernel)) (ewa_cons (ew_str "h" (by decide +kernel)) (ewa_cons ew_non ewa_nil))) (by decide))) ea_nilT))) (by decide)) (by decide)) H4 k0 _ fun v5 H5 e5 ⟨p, vs, ev, hp, hE⟩ => ?_
  subst ev
  replace hF := hF.same e5
  have hp := (wS_get hp).2
  replace hE := each_th wS_ex hE
  refine ⟨p, rfl, ⟨vs, sq_of hp⟩, ?_⟩
  refine for_it (walk_list (xs := vs)) (fun i σ H' => ∃ v2 : Option V, σ = [some (.ref a), some (.ref pk), v2, some (.ref p3)] ∧ FarmA C H' pk FS ∧ H' p = some (.lst vs) ∧ EachIs (ThR K H') vs (((wrongT ++ absentT) ++ someT) ++ lastT)) ⟨_, rfl, hF, hp, hE⟩ (fun i σ H' _ ⟨_, _, _, h, _⟩ => sq_of h) ?_ ?_
  · rintro i x σ H' H'' hi ⟨v2, rfl, hF, hp, hE⟩ ⟨rfl, hx⟩
    obtain ⟨t, ht, hR⟩ := each_get hE hx
    have ok : (okT t && !resT FS TT t) = true := by
      have hm := List.mem_of_getElem? ht
      rcases List.mem_append.mp hm with hm | hm
      · rcases List.mem_append.mp hm with hm | hm
        · rcases List.mem_append.mp hm with hm | hm
          · exact List.all_eq_true.mp shown_ok t hm
          · exact List.all_eq_true.mp absent_ok t hm
        · exact List.all_eq_true.mp some_ok t hm
      · exact List.all_eq_true.mp last_ok t hm
    rw [Bool.and_eq_true, Bool.not_eq_true'] at ok
    have c := ev_holds (T := TT) tgt_FS farmX hF hR ok.1 (Evl.ev_var (σ := [some (.ref a), some (.ref pk), some x, some (.ref p3)]) (i := 1) rfl) (Evl.ev_var (i := 2) rfl)
    rw [ok.2] at c
    refine Evl.s_when (b := false) (Evl.et_test (Evl.ev_op c Evl.ev_c rv_isNB)) (fun h => nomatch h) (fun _ H6 e6 => ?_)
    exact ⟨_, rfl, hF.same e6, e6 _ _ hp, each_th e6 hE⟩
  rintro σ H6 ⟨v2, rfl, _, _, _⟩
  dsimp only
  refine Evl.s_ret (v := .bl true) (Evl.ev_is (Evl.ev_andV (a := true) (b := true) (Evl.ev_op (ev_none (t := noT) (fun H1 => (tw_dat (ew_tup (ewa_cons (ew_str "shown" (by decide +kernel)) (ewa_cons (ew_str "" (by decide +kernel)) (ewa_cons (ew_tup ewa_nil (by decide)) (ewa_cons (ew_tup (ewa_cons (ew_str "" (by decide +kernel)) ewa_nil) (by decide)) (ewa_cons ew_non ewa_nil))))) (by decide)))) no_ok) Evl.ev_c (rv_isB (a := true) (b := true))) (fun _ => Evl.ev_op (ev_none (t := noA) (fun H1 => (tw_tab (ds := []) (ew_str "absent" (by decide +kernel)) (ew_str "a" (by decide +kernel)) eb_new ewa_nil (by decide))) noA_ok) Evl.ev_c (rv_isB (a := true) (b := true)))) rfl) fun H7 _ => by exact hq H7
end
end KF

set_option Elab.async false
set_option linter.all false
set_option maxRecDepth 100000
set_option maxHeartbeats 4000000
namespace KF
open PySem PySem.Spec PyProof.Rows L2 LF
theorem exm_of {K : PySem.W.Frag} {S T : Addr} {b : Bool} (h1 : PySem.W.subIn K (.ref T) (.type "BaseException") = some true) (h2 : PySem.W.isClsIn K T = true) (h3 : PySem.W.typeIn K (.ref T) = some (.type "type")) (h4 : PySem.W.subIn K (.ref S) (.ref T) = some b) :
    PySem.W.exmOne K (.ref S) (.ref T) = some b := by
  have e1 : (PySem.W.subIn K (.ref T) (.type "BaseException") == some true) = true := by rw [h1] <;> rfl
  have e2 : ((PySem.W.clsIn K T).isSome && PySem.W.typeIn K (.ref T) == some (.type "type")) = true := by
    have h2' : (PySem.W.clsIn K T).isSome = true := h2
    rw [h2', h3] <;> rfl
  show (if (PySem.W.subIn K (.ref T) (.type "BaseException") == some true) = true then (if ((PySem.W.clsIn K T).isSome && PySem.W.typeIn K (.ref T) == some (.type "type")) = true then PySem.W.subIn K (.ref S) (.ref T) else none) else none) = some b
  rw [if_pos e1, if_pos e2]
  exact h4
theorem all_mk {P : Program} {w : World} {K : PySem.W.Frag} {h : Heap} {mg : Str → Option Value} {fa CK fI TD f1 f2 f3 f4 f5 f6 f7 f8 f9 f10 f11 f12 f13 f14 f15 f16 f17 f18 f19 f20 f21 f22 f23 f24 f25 f26 f27 f28 f29 f30 f31 e0f e0N CM : Addr} (X : K.In h) (G : h.Ns mainGlobals mg) (hfa : mg "law" = some (.ref fa))
    {e0nm e0q : Str} {e0bs e0sub : List Value} {e0sn : List Str} {e0ab : Bool} {e0col : Option Bool} {e0m0 e0m1 e0m2 e0m3 e0m5 : Option Value} {tk2 tk3 tk4 tk5 tkL : Tok} {nT : Nat} 
    {e0od e0an e0dd od1 an1 od2 an2 od3 an3 od4 an4 od5 an5 od6 an6 od7 an7 od8 an8 od9 an9 od10 an10 od11 an11 od12 an12 od13 an13 od14 an14 od15 an15 od16 an16 od17 an17 od18 an18 od19 an19 od20 an20 od21 an21 od22 an22 od23 an23 od24 an24 od25 an25 od26 an26 od27 an27 od28 an28 od29 an29 od30 an30 od31 an31 odI anI odT : Option Addr} {e0sl sl1 sl2 sl3 sl4 sl5 sl6 sl7 sl8 sl9 sl10 sl11 sl12 sl13 sl14 sl15 sl16 sl17 sl18 sl19 sl20 sl21 sl22 sl23 sl24 sl25 sl26 sl27 sl28 sl29 sl30 sl31 slI slT : Array (Option Value)} {e0oc e0dc e0pm e0cd e0ct oc1 kV1 dc1 pm1 cd1 ct1 oc2 kV2 dc2 pm2 cd2 ct2 oc3 kV3 dc3 pm3 cd3 ct3 oc4 kV4 dc4 pm4 cd4 ct4 oc5 kV5 dc5 pm5 cd5 ct5 oc6 kV6 dc6 pm6 cd6 ct6 oc7 kV7 dc7 pm7 cd7 ct7 oc8 kV8 dc8 pm8 cd8 ct8 oc9 kV9 dc9 pm9 cd9 ct9 oc10 kV10 dc10 pm10 cd10 ct10 oc11 kV11 dc11 pm11 cd11 ct11 oc12 kV12 dc12 pm12 cd12 ct12 oc13 kV13 dc13 pm13 cd13 ct13 oc14 kV14 dc14 pm14 cd14 ct14 oc15 kV15 dc15 pm15 cd15 ct15 oc16 kV16 dc16 pm16 cd16 ct16 oc17 kV17 dc17 pm17 cd17 ct17 oc18 kV18 dc18 pm18 cd18 ct18 oc19 kV19 dc19 pm19 cd19 ct19 oc20 kV20 dc20 pm20 cd20 ct20 oc21 kV21 dc21 pm21 cd21 ct21 oc22 kV22 dc22 pm22 cd22 ct22 oc23 kV23 dc23 pm23 cd23 ct23 oc24 kV24 dc24 pm24 cd24 ct24 oc25 kV25 dc25 pm25 cd25 ct25 oc26 kV26 dc26 pm26 cd26 ct26 oc27 kV27 dc27 pm27 cd27 ct27 oc28 kV28 dc28 pm28 cd28 ct28 oc29 kV29 dc29 pm29 cd29 ct29 oc30 kV30 dc30 pm30 cd30 ct30 oc31 kV31 dc31 pm31 cd31 ct31 ocI kVI dcI pmI cdI ctI ocT : Value}
    {x0f x1f x2f CTk CNb fNb : Addr} {x0oc x0kV x0dc x0pm x0cd x0ct x1oc x1kV x1dc x1pm x1cd x1ct x2oc x2kV x2dc x2pm x2cd x2ct ocNb kVNb dcNb pmNb cdNb ctNb : Value} {x0od x0an x1od x1an x2od x2an odNb anNb : Option Addr} {x0sl x1sl x2sl slNb : Array (Option Value)}
    (e0a : PySem.W.nsIn K mainGlobals "TooMany" = some (some (.ref CM)))
    (e0x : K.lookup CM = some (excClassObj e0nm e0q CM e0N e0bs [.type "OverflowError", .type "ArithmeticError", .type "Exception", .type "BaseException", .type "object"] true e0sn e0sub e0ab e0col e0dd e0m0 e0m1 e0m2 e0m3 e0m5 "OverflowError.__new__"))
    (e0sa : PySem.W.findIn K (.ref CM) "__setattr__" = some (some (.builtin "object.__setattr__")))
    (e0ga : PySem.W.findIn K (.ref CM) "__getattribute__" = some (some (.builtin "BaseException.__getattribute__")))
    (e0gg : PySem.W.findIn K (.ref CM) "__getattr__" = some none)
    (e0nb : PySem.W.findIn K (.ref CM) "limit" = some none)
    (e0i : PySem.W.findIn K (.ref CM) "__init__" = some (some (.ref e0f)))
    (e0t : PySem.W.typeIn K (.ref e0f) = some (.type "function"))
    (e0l : K.lookup e0f = some ⟨e0oc, e0od, .func (PySem.W.fnOf "__init__" "TooMany.__init__" (PySem.TooManyX.iA ⟨31, 17, 31, 21⟩ ⟨31, 23, 31, 28⟩) (PySem.TooManyX.iB ⟨32, 8, 32, 12⟩ ⟨32, 8, 32, 18⟩ ⟨32, 21, 32, 26⟩ ⟨32, 8, 32, 26⟩) PySem.TooManyX.iS .none .none e0dc e0pm e0an e0cd e0ct), e0sl⟩)
    (e0c : PySem.W.codeIn K e0cd "TooMany.__init__" = true)
    (e0k : PySem.W.keepIn K (.ref CM) = true)
    (e0e : PySem.W.subIn K (.ref CM) (.type "BaseException") = some true)
    (e0ty : PySem.W.typeIn K (.ref CM) = some (.type "type"))
    (e0hd : PySem.W.hasDictIn K CM = true)
    (e0ic : PySem.W.isClsIn K CM = true)
    (e0ss : PySem.W.subIn K (.ref CM) (.ref CM) = some true)
    (e0ha : PySem.W.findIn K (.ref CM) "__class__" = some (some (.builtin "object.__class__")))
    (e0hm : PySem.W.mroIn K CM (.type "object") = some true)
    (zI2 : PySem.W.nsIn K mainGlobals "LONGEST_NAME" = some (some (.int 8 tk2)))
    (zI3 : PySem.W.nsIn K mainGlobals "MOST_NAMES" = some (some (.int 10 tk3)))
    (zI4 : PySem.W.nsIn K mainGlobals "MOST_TARGET_NAMES" = some (some (.int 8 tk4)))
    (zI5 : PySem.W.nsIn K mainGlobals "GREATEST_CONTENT" = some (some (.int 999999999999 tk5)))
    (z_isinstance : PySem.W.nsIn K mainGlobals "isinstance" = some none)
    (z_str : PySem.W.nsIn K mainGlobals "str" = some none)
    (z_len : PySem.W.nsIn K mainGlobals "len" = some none)
    (z_all : PySem.W.nsIn K mainGlobals "all" = some none)
    (z_any : PySem.W.nsIn K mainGlobals "any" = some none)
    (z_tuple : PySem.W.nsIn K mainGlobals "tuple" = some none)
    (z_list : PySem.W.nsIn K mainGlobals "list" = some none)
    (z_dict : PySem.W.nsIn K mainGlobals "dict" = some none)
    (z_sorted : PySem.W.nsIn K mainGlobals "sorted" = some none)
    (z_range : PySem.W.nsIn K mainGlobals "range" = some none)
    (z_abs : PySem.W.nsIn K mainGlobals "abs" = some none)
    (z_int : PySem.W.nsIn K mainGlobals "int" = some none)
    (z_bool : PySem.W.nsIn K mainGlobals "bool" = some none)
    (z_repr : PySem.W.nsIn K mainGlobals "repr" = some none)
    (z_max : PySem.W.nsIn K mainGlobals "max" = some none)
    (z_set : PySem.W.nsIn K mainGlobals "set" = some none)
    (z_min : PySem.W.nsIn K mainGlobals "min" = some none)
    (z_ValueError : PySem.W.nsIn K mainGlobals "ValueError" = some none)
    (z_OverflowError : PySem.W.nsIn K mainGlobals "OverflowError" = some none)
    (a1 : PySem.W.nsIn K mainGlobals "is_name" = some (some (.ref f1)))
    (l1 : K.lookup f1 = some ⟨oc1, od1, .func (PySem.W.fnOf "is_name" "is_name" (defArgs s_is_name) (defBody s_is_name) (defScope s_is_name) .none kV1 dc1 pm1 an1 cd1 ct1), sl1⟩)
    (c1 : PySem.W.codeIn K cd1 "is_name" = true)
    (k1 : PySem.W.keepIn K (.ref f1) = true)
    (a2 : PySem.W.nsIn K mainGlobals "is_path" = some (some (.ref f2)))
    (l2 : K.lookup f2 = some ⟨oc2, od2, .func (PySem.W.fnOf "is_path" "is_path" (defArgs s_is_path) (defBody s_is_path) (defScope s_is_path) .none kV2 dc2 pm2 an2 cd2 ct2), sl2⟩)
    (c2 : PySem.W.codeIn K cd2 "is_path" = true)
    (k2 : PySem.W.keepIn K (.ref f2) = true)
    (a3 : PySem.W.nsIn K mainGlobals "in_order" = some (some (.ref f3)))
    (l3 : K.lookup f3 = some ⟨oc3, od3, .func (PySem.W.fnOf "in_order" "in_order" (defArgs s_in_order) (defBody s_in_order) (defScope s_in_order) .none kV3 dc3 pm3 an3 cd3 ct3), sl3⟩)
    (c3 : PySem.W.codeIn K cd3 "in_order" = true)
    (k3 : PySem.W.keepIn K (.ref f3) = true)
    (a4 : PySem.W.nsIn K mainGlobals "split_path" = some (some (.ref f4)))
    (l4 : K.lookup f4 = some ⟨oc4, od4, .func (PySem.W.fnOf "split_path" "split_path" (defArgs s_split_path) (defBody s_split_path) (defScope s_split_path) .none kV4 dc4 pm4 an4 cd4 ct4), sl4⟩)
    (c4 : PySem.W.codeIn K cd4 "split_path" = true)
    (k4 : PySem.W.keepIn K (.ref f4) = true)
    (a5 : PySem.W.nsIn K mainGlobals "joined" = some (some (.ref f5)))
    (l5 : K.lookup f5 = some ⟨oc5, od5, .func (PySem.W.fnOf "joined" "joined" (defArgs s_joined) (defBody s_joined) (defScope s_joined) .none kV5 dc5 pm5 an5 cd5 ct5), sl5⟩)
    (c5 : PySem.W.codeIn K cd5 "joined" = true)
    (k5 : PySem.W.keepIn K (.ref f5) = true)
    (a6 : PySem.W.nsIn K mainGlobals "order_key" = some (some (.ref f6)))
    (l6 : K.lookup f6 = some ⟨oc6, od6, .func (PySem.W.fnOf "order_key" "order_key" (defArgs s_order_key) (defBody s_order_key) (defScope s_order_key) .none kV6 dc6 pm6 an6 cd6 ct6), sl6⟩)
    (c6 : PySem.W.codeIn K cd6 "order_key" = true)
    (k6 : PySem.W.keepIn K (.ref f6) = true)
    (a7 : PySem.W.nsIn K mainGlobals "beginnings" = some (some (.ref f7)))
    (l7 : K.lookup f7 = some ⟨oc7, od7, .func (PySem.W.fnOf "beginnings" "beginnings" (defArgs s_beginnings) (defBody s_beginnings) (defScope s_beginnings) .none kV7 dc7 pm7 an7 cd7 ct7), sl7⟩)
    (c7 : PySem.W.codeIn K cd7 "beginnings" = true)
    (k7 : PySem.W.keepIn K (.ref f7) = true)
    (a8 : PySem.W.nsIn K mainGlobals "is_content" = some (some (.ref f8)))
    (l8 : K.lookup f8 = some ⟨oc8, od8, .func (PySem.W.fnOf "is_content" "is_content" (defArgs s_is_content) (defBody s_is_content) (defScope s_is_content) .none kV8 dc8 pm8 an8 cd8 ct8), sl8⟩)
    (c8 : PySem.W.codeIn K cd8 "is_content" = true)
    (k8 : PySem.W.keepIn K (.ref f8) = true)
    (a9 : PySem.W.nsIn K mainGlobals "is_target" = some (some (.ref f9)))
    (l9 : K.lookup f9 = some ⟨oc9, od9, .func (PySem.W.fnOf "is_target" "is_target" (defArgs s_is_target) (defBody s_is_target) (defScope s_is_target) .none kV9 dc9 pm9 an9 cd9 ct9), sl9⟩)
    (c9 : PySem.W.codeIn K cd9 "is_target" = true)
    (k9 : PySem.W.keepIn K (.ref f9) = true)
    (a10 : PySem.W.nsIn K mainGlobals "is_place" = some (some (.ref f10)))
    (l10 : K.lookup f10 = some ⟨oc10, od10, .func (PySem.W.fnOf "is_place" "is_place" (defArgs s_is_place) (defBody s_is_place) (defScope s_is_place) .none kV10 dc10 pm10 an10 cd10 ct10), sl10⟩)
    (c10 : PySem.W.codeIn K cd10 "is_place" = true)
    (k10 : PySem.W.keepIn K (.ref f10) = true)
    (a11 : PySem.W.nsIn K mainGlobals "is_item" = some (some (.ref f11)))
    (l11 : K.lookup f11 = some ⟨oc11, od11, .func (PySem.W.fnOf "is_item" "is_item" (defArgs s_is_item) (defBody s_is_item) (defScope s_is_item) .none kV11 dc11 pm11 an11 cd11 ct11), sl11⟩)
    (c11 : PySem.W.codeIn K cd11 "is_item" = true)
    (k11 : PySem.W.keepIn K (.ref f11) = true)
    (a12 : PySem.W.nsIn K mainGlobals "check_entries" = some (some (.ref f12)))
    (l12 : K.lookup f12 = some ⟨oc12, od12, .func (PySem.W.fnOf "check_entries" "check_entries" (defArgs s_check_entries) (defBody s_check_entries) (defScope s_check_entries) .none kV12 dc12 pm12 an12 cd12 ct12), sl12⟩)
    (c12 : PySem.W.codeIn K cd12 "check_entries" = true)
    (k12 : PySem.W.keepIn K (.ref f12) = true)
    (a13 : PySem.W.nsIn K mainGlobals "lies_below_leaf" = some (some (.ref f13)))
    (l13 : K.lookup f13 = some ⟨oc13, od13, .func (PySem.W.fnOf "lies_below_leaf" "lies_below_leaf" (defArgs s_lies_below_leaf) (defBody s_lies_below_leaf) (defScope s_lies_below_leaf) .none kV13 dc13 pm13 an13 cd13 ct13), sl13⟩)
    (c13 : PySem.W.codeIn K cd13 "lies_below_leaf" = true)
    (k13 : PySem.W.keepIn K (.ref f13) = true)
    (a14 : PySem.W.nsIn K mainGlobals "with_parents" = some (some (.ref f14)))
    (l14 : K.lookup f14 = some ⟨oc14, od14, .func (PySem.W.fnOf "with_parents" "with_parents" (defArgs s_with_parents) (defBody s_with_parents) (defScope s_with_parents) .none kV14 dc14 pm14 an14 cd14 ct14), sl14⟩)
    (c14 : PySem.W.codeIn K cd14 "with_parents" = true)
    (k14 : PySem.W.keepIn K (.ref f14) = true)
    (a15 : PySem.W.nsIn K mainGlobals "items_by_place" = some (some (.ref f15)))
    (l15 : K.lookup f15 = some ⟨oc15, od15, .func (PySem.W.fnOf "items_by_place" "items_by_place" (defArgs s_items_by_place) (defBody s_items_by_place) (defScope s_items_by_place) .none kV15 dc15 pm15 an15 cd15 ct15), sl15⟩)
    (c15 : PySem.W.codeIn K cd15 "items_by_place" = true)
    (k15 : PySem.W.keepIn K (.ref f15) = true)
    (a16 : PySem.W.nsIn K mainGlobals "targets_of" = some (some (.ref f16)))
    (l16 : K.lookup f16 = some ⟨oc16, od16, .func (PySem.W.fnOf "targets_of" "targets_of" (defArgs s_targets_of) (defBody s_targets_of) (defScope s_targets_of) .none kV16 dc16 pm16 an16 cd16 ct16), sl16⟩)
    (c16 : PySem.W.codeIn K cd16 "targets_of" = true)
    (k16 : PySem.W.keepIn K (.ref f16) = true)
    (a17 : PySem.W.nsIn K mainGlobals "holds" = some (some (.ref f17)))
    (l17 : K.lookup f17 = some ⟨oc17, od17, .func (PySem.W.fnOf "holds" "holds" (defArgs s_holds) (defBody s_holds) (defScope s_holds) .none kV17 dc17 pm17 an17 cd17 ct17), sl17⟩)
    (c17 : PySem.W.codeIn K cd17 "holds" = true)
    (k17 : PySem.W.keepIn K (.ref f17) = true)
    (a18 : PySem.W.nsIn K mainGlobals "holds_shown" = some (some (.ref f18)))
    (l18 : K.lookup f18 = some ⟨oc18, od18, .func (PySem.W.fnOf "holds_shown" "holds_shown" (defArgs s_holds_shown) (defBody s_holds_shown) (defScope s_holds_shown) .none kV18 dc18 pm18 an18 cd18 ct18), sl18⟩)
    (c18 : PySem.W.codeIn K cd18 "holds_shown" = true)
    (k18 : PySem.W.keepIn K (.ref f18) = true)
    (a19 : PySem.W.nsIn K mainGlobals "is_trail" = some (some (.ref f19)))
    (l19 : K.lookup f19 = some ⟨oc19, od19, .func (PySem.W.fnOf "is_trail" "is_trail" (defArgs s_is_trail) (defBody s_is_trail) (defScope s_is_trail) .none kV19 dc19 pm19 an19 cd19 ct19), sl19⟩)
    (c19 : PySem.W.codeIn K cd19 "is_trail" = true)
    (k19 : PySem.W.keepIn K (.ref f19) = true)
    (a20 : PySem.W.nsIn K mainGlobals "leads_on" = some (some (.ref f20)))
    (l20 : K.lookup f20 = some ⟨oc20, od20, .func (PySem.W.fnOf "leads_on" "leads_on" (defArgs s_leads_on) (defBody s_leads_on) (defScope s_leads_on) .none kV20 dc20 pm20 an20 cd20 ct20), sl20⟩)
    (c20 : PySem.W.codeIn K cd20 "leads_on" = true)
    (k20 : PySem.W.keepIn K (.ref f20) = true)
    (a21 : PySem.W.nsIn K mainGlobals "holds_absent" = some (some (.ref f21)))
    (l21 : K.lookup f21 = some ⟨oc21, od21, .func (PySem.W.fnOf "holds_absent" "holds_absent" (defArgs s_holds_absent) (defBody s_holds_absent) (defScope s_holds_absent) .none kV21 dc21 pm21 an21 cd21 ct21), sl21⟩)
    (c21 : PySem.W.codeIn K cd21 "holds_absent" = true)
    (k21 : PySem.W.keepIn K (.ref f21) = true)
    (a22 : PySem.W.nsIn K mainGlobals "is_list_of_places" = some (some (.ref f22)))
    (l22 : K.lookup f22 = some ⟨oc22, od22, .func (PySem.W.fnOf "is_list_of_places" "is_list_of_places" (defArgs s_is_list_of_places) (defBody s_is_list_of_places) (defScope s_is_list_of_places) .none kV22 dc22 pm22 an22 cd22 ct22), sl22⟩)
    (c22 : PySem.W.codeIn K cd22 "is_list_of_places" = true)
    (k22 : PySem.W.keepIn K (.ref f22) = true)
    (a23 : PySem.W.nsIn K mainGlobals "read_by" = some (some (.ref f23)))
    (l23 : K.lookup f23 = some ⟨oc23, od23, .func (PySem.W.fnOf "read_by" "read_by" (defArgs s_read_by) (defBody s_read_by) (defScope s_read_by) .none kV23 dc23 pm23 an23 cd23 ct23), sl23⟩)
    (c23 : PySem.W.codeIn K cd23 "read_by" = true)
    (k23 : PySem.W.keepIn K (.ref f23) = true)
    (a24 : PySem.W.nsIn K mainGlobals "is_empty_place" = some (some (.ref f24)))
    (l24 : K.lookup f24 = some ⟨oc24, od24, .func (PySem.W.fnOf "is_empty_place" "is_empty_place" (defArgs s_is_empty_place) (defBody s_is_empty_place) (defScope s_is_empty_place) .none kV24 dc24 pm24 an24 cd24 ct24), sl24⟩)
    (c24 : PySem.W.codeIn K cd24 "is_empty_place" = true)
    (k24 : PySem.W.keepIn K (.ref f24) = true)
    (a25 : PySem.W.nsIn K mainGlobals "_law_farm" = some (some (.ref f25)))
    (l25 : K.lookup f25 = some ⟨oc25, od25, .func (PySem.W.fnOf "_law_farm" "_law_farm" (defArgs s__law_farm) (defBody s__law_farm) (defScope s__law_farm) .none kV25 dc25 pm25 an25 cd25 ct25), sl25⟩)
    (c25 : PySem.W.codeIn K cd25 "_law_farm" = true)
    (k25 : PySem.W.keepIn K (.ref f25) = true)
    (a26 : PySem.W.nsIn K mainGlobals "_law_facts" = some (some (.ref f26)))
    (l26 : K.lookup f26 = some ⟨oc26, od26, .func (PySem.W.fnOf "_law_facts" "_law_facts" (defArgs s__law_facts) (defBody s__law_facts) (defScope s__law_facts) .none kV26 dc26 pm26 an26 cd26 ct26), sl26⟩)
    (c26 : PySem.W.codeIn K cd26 "_law_facts" = true)
    (k26 : PySem.W.keepIn K (.ref f26) = true)
    (a27 : PySem.W.nsIn K mainGlobals "_law_table" = some (some (.ref f27)))
    (l27 : K.lookup f27 = some ⟨oc27, od27, .func (PySem.W.fnOf "_law_table" "_law_table" (defArgs s__law_table) (defBody s__law_table) (defScope s__law_table) .none kV27 dc27 pm27 an27 cd27 ct27), sl27⟩)
    (c27 : PySem.W.codeIn K cd27 "_law_table" = true)
    (k27 : PySem.W.keepIn K (.ref f27) = true)
    (a28 : PySem.W.nsIn K mainGlobals "_law_right_papers" = some (some (.ref f28)))
    (l28 : K.lookup f28 = some ⟨oc28, od28, .func (PySem.W.fnOf "_law_right_papers" "_law_right_papers" (defArgs s__law_right_papers) (defBody s__law_right_papers) (defScope s__law_right_papers) .none kV28 dc28 pm28 an28 cd28 ct28), sl28⟩)
    (c28 : PySem.W.codeIn K cd28 "_law_right_papers" = true)
    (k28 : PySem.W.keepIn K (.ref f28) = true)
    (a29 : PySem.W.nsIn K mainGlobals "_law_wrong_shown" = some (some (.ref f29)))
    (l29 : K.lookup f29 = some ⟨oc29, od29, .func (PySem.W.fnOf "_law_wrong_shown" "_law_wrong_shown" (defArgs s__law_wrong_shown) (defBody s__law_wrong_shown) (defScope s__law_wrong_shown) .none kV29 dc29 pm29 an29 cd29 ct29), sl29⟩)
    (c29 : PySem.W.codeIn K cd29 "_law_wrong_shown" = true)
    (k29 : PySem.W.keepIn K (.ref f29) = true)
    (a30 : PySem.W.nsIn K mainGlobals "_law_wrong_absent" = some (some (.ref f30)))
    (l30 : K.lookup f30 = some ⟨oc30, od30, .func (PySem.W.fnOf "_law_wrong_absent" "_law_wrong_absent" (defArgs s__law_wrong_absent) (defBody s__law_wrong_absent) (defScope s__law_wrong_absent) .none kV30 dc30 pm30 an30 cd30 ct30), sl30⟩)
    (c30 : PySem.W.codeIn K cd30 "_law_wrong_absent" = true)
    (k30 : PySem.W.keepIn K (.ref f30) = true)
    (a31 : PySem.W.nsIn K mainGlobals "law" = some (some (.ref f31)))
    (l31 : K.lookup f31 = some ⟨oc31, od31, .func (PySem.W.fnOf "law" "law" (defArgs s_law) (defBody s_law) (defScope s_law) .none kV31 dc31 pm31 an31 cd31 ct31), sl31⟩)
    (c31 : PySem.W.codeIn K cd31 "law" = true)
    (k31 : PySem.W.keepIn K (.ref f31) = true)
    (aK : PySem.W.nsIn K mainGlobals "Package" = some (some (.ref CK)))
    (pg : PySem.W.plainGet K CK Str.empty = true)
    (hd : PySem.W.hasDictIn K CK = true)
    (po : PySem.W.plainOver K CK = true)
    (saK : PySem.W.findIn K (.ref CK) "__setattr__" = some (some (.builtin "object.__setattr__")))
    (mkK : PySem.W.makesIn K CK = true)
    (kcK : PySem.W.keepIn K (.ref CK) = true)
    (nE : PySem.W.findIn K (.ref CK) "entries" = some none)
    (aL : PySem.W.findIn K (.ref CK) "LIMIT" = some (some (.int 40 tkL)))
    (gL : PySem.W.specialIn K (.int 40 tkL) "__get__" = some none)
    (aI : PySem.W.findIn K (.ref CK) "__init__" = some (some (.ref fI)))
    (iI : PySem.W.isFn K (.ref fI) = true)
    (lI : K.lookup fI = some ⟨ocI, odI, .func (PySem.W.fnOf "__init__" "Package.__init__" (defArgs s_init) (defBody s_init) (defScope s_init) (.ref TD) kVI dcI pmI anI cdI ctI), slI⟩)
    (cI : PySem.W.codeIn K cdI "Package.__init__" = true)
    (kI : PySem.W.keepIn K (.ref fI) = true)
    (lT : K.lookup TD = some ⟨ocT, odT, .seq #[.none] nT, slT⟩)
    (hnN : PySem.W.specialIn K (.builtin "object.__class__") "__get__" = some (some (.builtin "getset_descriptor.__get__")))
    (htN : PySem.W.takesIn K (.builtin "object.__class__") = some true)
    (haK : PySem.W.findIn K (.ref CK) "__class__" = some (some (.builtin "object.__class__")))
    (hmK : PySem.W.mroIn K CK (.type "object") = some true)
    (x0a : PySem.W.nsIn K mainGlobals "is_integer" = some (some (.ref x0f)))
    (x0l : K.lookup x0f = some ⟨x0oc, x0od, .func (PySem.W.fnOf "is_integer" "is_integer" (defArgs s_is_integer) (defBody s_is_integer) (defScope s_is_integer) .none x0kV x0dc x0pm x0an x0cd x0ct), x0sl⟩)
    (x0c : PySem.W.codeIn K x0cd "is_integer" = true)
    (x0k : PySem.W.keepIn K (.ref x0f) = true)
    (x1a : PySem.W.nsIn K mainGlobals "solid_entries" = some (some (.ref x1f)))
    (x1l : K.lookup x1f = some ⟨x1oc, x1od, .func (PySem.W.fnOf "solid_entries" "solid_entries" (defArgs s_solid_entries) (defBody s_solid_entries) (defScope s_solid_entries) .none x1kV x1dc x1pm x1an x1cd x1ct), x1sl⟩)
    (x1c : PySem.W.codeIn K x1cd "solid_entries" = true)
    (x1k : PySem.W.keepIn K (.ref x1f) = true)
    (x2a : PySem.W.nsIn K mainGlobals "names_within" = some (some (.ref x2f)))
    (x2l : K.lookup x2f = some ⟨x2oc, x2od, .func (PySem.W.fnOf "names_within" "names_within" (defArgs s_names_within) (defBody s_names_within) (defScope s_names_within) .none x2kV x2dc x2pm x2an x2cd x2ct), x2sl⟩)
    (x2c : PySem.W.codeIn K x2cd "names_within" = true)
    (x2k : PySem.W.keepIn K (.ref x2f) = true)
    (naS : PySem.W.findIn K (.ref CK) "solid" = some none)
    (naR : PySem.W.findIn K (.ref CK) "rooms" = some none)
    (naT : PySem.W.findIn K (.ref CK) "token" = some none)
    (naN : PySem.W.findIn K (.ref CK) "notes" = some none)
    (q_ta : PySem.W.nsIn K mainGlobals "Token" = some (some (.ref CTk)))
    (q_tm : PySem.W.makesIn K CTk = true)
    (q_ti : PySem.W.findIn K (.ref CTk) "__init__" = some (some (.builtin "object.__init__")))
    (q_tk : PySem.W.keepIn K (.ref CTk) = true)
    (q_na : PySem.W.nsIn K mainGlobals "Notebook" = some (some (.ref CNb)))
    (q_nm : PySem.W.makesIn K CNb = true)
    (q_ni : PySem.W.findIn K (.ref CNb) "__init__" = some (some (.ref fNb)))
    (q_nf : PySem.W.isFn K (.ref fNb) = true)
    (q_nk : PySem.W.keepIn K (.ref CNb) = true)
    (q_nl : K.lookup fNb = some ⟨ocNb, odNb, .func (PySem.W.fnOf "__init__" "Notebook.__init__" (defArgs s_ninit) (defBody s_ninit) (defScope s_ninit) .none kVNb dcNb pmNb anNb cdNb ctNb), slNb⟩)
    (q_nc : PySem.W.codeIn K cdNb "Notebook.__init__" = true)
    (q_nkf : PySem.W.keepIn K (.ref fNb) = true)
    (q_npg : PySem.W.plainGet K CNb Str.empty = true)
    (q_nhd : PySem.W.hasDictIn K CNb = true)
    (q_npo : PySem.W.plainOver K CNb = true)
    (q_nsa : PySem.W.findIn K (.ref CNb) "__setattr__" = some (some (.builtin "object.__setattr__")))
    (q_nrw : PySem.W.findIn K (.ref CNb) "rows" = some none) :
    ∃ fd : FuncData, (∀ (s : Shared) (u : Value), BindsTo s fd ⟨[u], []⟩ [("_law_script", u)]) ∧ ∀ base : Heap, K.In base → base.Ns mainGlobals mg → FnG P w K mg base CX0 11 fa fd ["_law_script"] (spLaw K) := by
  have e := hfa.symm.trans (PySem.W.mg_of X G a31)
  cases e
  have low0 : PySem.TooManyX.ManyTxt K mg CM e0f :=
    { gC := PySem.W.mg_of X G e0a, cls := ⟨_, _, _, _, _, _, _, _, _, _, _, _, _, _, _, e0x, rfl⟩, sa := e0sa, ga := e0ga, gg := e0gg, noN := e0nb, iC := e0i, tC := e0t, kC := e0k, exC := e0e, tyC := e0ty, hdC := e0hd, te := exm_of e0e e0ic e0ty e0ss,
      fn := ⟨_, _, _, _, _, _, _, _, _, _, _, _, _, _, e0l, e0c⟩ }
  have exc0 : ExcC K CM := ⟨e0ga, e0gg, e0e, e0hd, e0ha, hnN, htN, e0hm⟩
  have T : Txt K mg tk2 tk2 := ⟨PySem.W.mg_of X G zI2, PySem.W.mg_none_of X G z_isinstance, PySem.W.mg_none_of X G z_str, PySem.W.mg_none_of X G z_len, PySem.W.mg_none_of X G z_all, PySem.W.mg_none_of X G z_any, PySem.W.mg_none_of X G z_tuple, PySem.W.mg_none_of X G z_list, PySem.W.mg_none_of X G z_dict, PySem.W.mg_none_of X G z_sorted, PySem.W.mg_none_of X G z_range, PySem.W.mg_none_of X G z_abs, PySem.W.mg_none_of X G z_int, PySem.W.mg_none_of X G z_bool, PySem.W.mg_none_of X G z_repr, PySem.W.mg_none_of X G z_max, PySem.W.mg_none_of X G z_set, PySem.W.mg_none_of X G z_min, PySem.W.mg_none_of X G z_ValueError, PySem.W.mg_none_of X G z_OverflowError⟩
  have NU : Nums K mg := ⟨⟨tk3, PySem.W.mg_of X G zI3⟩, ⟨tk4, PySem.W.mg_of X G zI4⟩, ⟨tk5, PySem.W.mg_of X G zI5⟩⟩
  have cl : Cls K CK := ⟨pg, hd, po, saK⟩
  have PT : PkTxt K mg CK := ⟨cl, nE, PySem.W.mg_of X G aK, ⟨tkL, aL, ⟨_, rfl⟩, gL, by decide +kernel⟩, naS, naR, naT, naN⟩
  have x0F := fun_mk (st := s_is_integer) x0l x0c x0k
  have x0b := x0F.binds (ps := ["thing"]) fun _ _ _ _ _ _ us hl => match us, hl with | [_], _ => rfl
  have x1F := fun_mk (st := s_solid_entries) x1l x1c x1k
  have x1b := x1F.binds (ps := ["entries"]) fun _ _ _ _ _ _ us hl => match us, hl with | [_], _ => rfl
  have x2F := fun_mk (st := s_names_within) x2l x2c x2k
  have x2b := x2F.binds (ps := ["entries"]) fun _ _ _ _ _ _ us hl => match us, hl with | [_], _ => rfl
  have FNb := fun_mk (st := s_ninit) q_nl q_nc q_nkf
  have bNb := FNb.binds (ps := ["self"]) fun _ _ _ _ _ _ us hl => match us, hl with | [_], _ => rfl
  have F1 := fun_mk (st := s_is_name) l1 c1 k1
  have b1 := F1.binds (ps := ["thing"]) fun _ _ _ _ _ _ us hl => match us, hl with | [_], _ => rfl
  have F2 := fun_mk (st := s_is_path) l2 c2 k2
  have b2 := F2.binds (ps := ["thing"]) fun _ _ _ _ _ _ us hl => match us, hl with | [_], _ => rfl
  have F3 := fun_mk (st := s_in_order) l3 c3 k3
  have b3 := F3.binds (ps := ["paths"]) fun _ _ _ _ _ _ us hl => match us, hl with | [_], _ => rfl
  have F4 := fun_mk (st := s_split_path) l4 c4 k4
  have b4 := F4.binds (ps := ["path"]) fun _ _ _ _ _ _ us hl => match us, hl with | [_], _ => rfl
  have F5 := fun_mk (st := s_joined) l5 c5 k5
  have b5 := F5.binds (ps := ["path", "name"]) fun _ _ _ _ _ _ us hl => match us, hl with | [_, _], _ => rfl
  have F6 := fun_mk (st := s_order_key) l6 c6 k6
  have b6 := F6.binds (ps := ["path"]) fun _ _ _ _ _ _ us hl => match us, hl with | [_], _ => rfl
  have F7 := fun_mk (st := s_beginnings) l7 c7 k7
  have b7 := F7.binds (ps := ["path"]) fun _ _ _ _ _ _ us hl => match us, hl with | [_], _ => rfl
  have F8 := fun_mk (st := s_is_content) l8 c8 k8
  have b8 := F8.binds (ps := ["thing"]) fun _ _ _ _ _ _ us hl => match us, hl with | [_], _ => rfl
  have F9 := fun_mk (st := s_is_target) l9 c9 k9
  have b9 := F9.binds (ps := ["thing"]) fun _ _ _ _ _ _ us hl => match us, hl with | [_], _ => rfl
  have F10 := fun_mk (st := s_is_place) l10 c10 k10
  have b10 := F10.binds (ps := ["thing"]) fun _ _ _ _ _ _ us hl => match us, hl with | [_], _ => rfl
  have F11 := fun_mk (st := s_is_item) l11 c11 k11
  have b11 := F11.binds (ps := ["thing"]) fun _ _ _ _ _ _ us hl => match us, hl with | [_], _ => rfl
  have F12 := fun_mk (st := s_check_entries) l12 c12 k12
  have b12 := F12.binds (ps := ["entries"]) fun _ _ _ _ _ _ us hl => match us, hl with | [_], _ => rfl
  have F13 := fun_mk (st := s_lies_below_leaf) l13 c13 k13
  have b13 := F13.binds (ps := ["entries", "path"]) fun _ _ _ _ _ _ us hl => match us, hl with | [_, _], _ => rfl
  have F14 := fun_mk (st := s_with_parents) l14 c14 k14
  have b14 := F14.binds (ps := ["entries"]) fun _ _ _ _ _ _ us hl => match us, hl with | [_], _ => rfl
  have F15 := fun_mk (st := s_items_by_place) l15 c15 k15
  have b15 := F15.binds (ps := ["packages"]) fun _ _ _ _ _ _ us hl => match us, hl with | [_], _ => rfl
  have F16 := fun_mk (st := s_targets_of) l16 c16 k16
  have b16 := F16.binds (ps := ["items"]) fun _ _ _ _ _ _ us hl => match us, hl with | [_], _ => rfl
  have F17 := fun_mk (st := s_holds) l17 c17 k17
  have b17 := F17.binds (ps := ["packages", "thing"]) fun _ _ _ _ _ _ us hl => match us, hl with | [_, _], _ => rfl
  have F18 := fun_mk (st := s_holds_shown) l18 c18 k18
  have b18 := F18.binds (ps := ["packages", "path", "facts", "trail", "name"]) fun _ _ _ _ _ _ us hl => match us, hl with | [_, _, _, _, _], _ => rfl
  have F19 := fun_mk (st := s_is_trail) l19 c19 k19
  have b19 := F19.binds (ps := ["items", "ends", "path", "thing"]) fun _ _ _ _ _ _ us hl => match us, hl with | [_, _, _, _], _ => rfl
  have F20 := fun_mk (st := s_leads_on) l20 c20 k20
  have b20 := F20.binds (ps := ["items", "ends", "place", "name", "after"]) fun _ _ _ _ _ _ us hl => match us, hl with | [_, _, _, _, _], _ => rfl
  have F21 := fun_mk (st := s_holds_absent) l21 c21 k21
  have b21 := F21.binds (ps := ["packages", "path", "table"]) fun _ _ _ _ _ _ us hl => match us, hl with | [_, _, _], _ => rfl
  have F22 := fun_mk (st := s_is_list_of_places) l22 c22 k22
  have b22 := F22.binds (ps := ["thing"]) fun _ _ _ _ _ _ us hl => match us, hl with | [_], _ => rfl
  have F23 := fun_mk (st := s_read_by) l23 c23 k23
  have b23 := F23.binds (ps := ["items", "rows", "path"]) fun _ _ _ _ _ _ us hl => match us, hl with | [_, _, _], _ => rfl
  have F24 := fun_mk (st := s_is_empty_place) l24 c24 k24
  have b24 := F24.binds (ps := ["items", "place"]) fun _ _ _ _ _ _ us hl => match us, hl with | [_, _], _ => rfl
  have F25 := fun_mk (st := s__law_farm) l25 c25 k25
  have b25 := F25.binds (ps := []) fun _ _ _ _ _ _ us hl => match us, hl with | [], _ => rfl
  have F26 := fun_mk (st := s__law_facts) l26 c26 k26
  have b26 := F26.binds (ps := []) fun _ _ _ _ _ _ us hl => match us, hl with | [], _ => rfl
  have F27 := fun_mk (st := s__law_table) l27 c27 k27
  have b27 := F27.binds (ps := []) fun _ _ _ _ _ _ us hl => match us, hl with | [], _ => rfl
  have F28 := fun_mk (st := s__law_right_papers) l28 c28 k28
  have b28 := F28.binds (ps := []) fun _ _ _ _ _ _ us hl => match us, hl with | [], _ => rfl
  have F29 := fun_mk (st := s__law_wrong_shown) l29 c29 k29
  have b29 := F29.binds (ps := []) fun _ _ _ _ _ _ us hl => match us, hl with | [], _ => rfl
  have F30 := fun_mk (st := s__law_wrong_absent) l30 c30 k30
  have b30 := F30.binds (ps := []) fun _ _ _ _ _ _ us hl => match us, hl with | [], _ => rfl
  have F31 := fun_mk (st := s_law) l31 c31 k31
  have b31 := F31.binds (ps := ["_law_script"]) fun _ _ _ _ _ _ us hl => match us, hl with | [_], _ => rfl
  have FI : FunD K "__init__" "Package.__init__" (defArgs s_init) (defBody s_init) (defScope s_init) [.non] [] fI _ :=
    ⟨⟨_, _, _, _, _, _, _, _, _, _, rfl, lI, cI, Or.inr ⟨by simp, TD, _, [.none], nT, rfl, lT, rfl, .cons rfl .nil⟩, Or.inl rfl⟩, kI⟩
  obtain ⟨ds2, hds2, bI2⟩ := FI.binds1 (ps := ["self", "entries"]) 2 1 (by simp) rfl (fun T kV doc pm an cdv ct us its h1 h2 => match us, its, h1, h2 with | [_, _], [_], _, _ => ⟨_, rfl, rfl⟩)
  cases hds2
  obtain ⟨ds, hds, bI⟩ := FI.binds1 (ps := ["self", "entries"]) 1 0 (by simp) rfl (fun T kV doc pm an cdv ct us its h1 h2 => match us, its, h1, h2 with | [_], [_], _, _ => ⟨_, rfl, rfl⟩)
  refine ⟨_, fun s u => .of_eq (fd := PySem.W.fnOf "law" "law" (defArgs s_law) (defBody s_law) (defScope s_law) .none kV31 dc31 pm31 an31 cd31 ct31) rfl, fun base _ _ => ?_⟩
  have d1 : DefAt P w K mg base "is_name" _ f1 _ _ _ := ⟨ok_is_name F1 T, PySem.W.mg_of X G a1, k1, b1⟩
  have d2 : DefAt P w K mg base "is_path" _ f2 _ _ _ := ⟨ok_is_path F2 T d1, PySem.W.mg_of X G a2, k2, b2⟩
  have d4 : DefAt P w K mg base "split_path" _ f4 _ _ _ := ⟨ok_split_path F4, PySem.W.mg_of X G a4, k4, b4⟩
  have d6 : DefAt P w K mg base "order_key" _ f6 _ _ _ := ⟨ok_order_key F6 T d4, PySem.W.mg_of X G a6, k6, b6⟩
  have d3 : DefAt P w K mg base "in_order" _ f3 _ _ _ := ⟨ok_in_order F3 T d6, PySem.W.mg_of X G a3, k3, b3⟩
  have d7 : DefAt P w K mg base "beginnings" _ f7 _ _ _ := ⟨ok_beginnings F7 T d4, PySem.W.mg_of X G a7, k7, b7⟩
  have dx0 : DefAt P w K mg base "is_integer" _ x0f _ _ _ := ⟨ok_is_integer x0F T, PySem.W.mg_of X G x0a, x0k, x0b⟩
  have d8 : DefAt P w K mg base "is_content" _ f8 _ _ _ := ⟨ok_is_content F8 T NU dx0, PySem.W.mg_of X G a8, k8, b8⟩
  have d9 : DefAt P w K mg base "is_target" _ f9 _ _ _ := ⟨ok_is_target F9 T NU d2 d4, PySem.W.mg_of X G a9, k9, b9⟩
  have d10 : DefAt P w K mg base "is_place" _ f10 _ _ _ := ⟨ok_is_place F10 T NU d2 d4, PySem.W.mg_of X G a10, k10, b10⟩
  have d11 : DefAt P w K mg base "is_item" _ f11 _ _ _ := ⟨ok_is_item F11 d8 d9, PySem.W.mg_of X G a11, k11, b11⟩
  have d13 : DefAt P w K mg base "lies_below_leaf" _ f13 _ _ _ := ⟨ok_lies F13 T.n_any d7, PySem.W.mg_of X G a13, k13, b13⟩
  have d12 : DefAt P w K mg base "check_entries" _ f12 _ _ _ := ⟨ok_check_entries F12 T d3 d10 d11 d13, PySem.W.mg_of X G a12, k12, b12⟩
  have d14 : DefAt P w K mg base "with_parents" _ f14 _ _ _ := ⟨ok_with_parents F14 T d3 d7, PySem.W.mg_of X G a14, k14, b14⟩
  have MI : Mk K CK fI := ⟨mkK, aI, iI, kcK⟩
  have dx1 : DefAt P w K mg base "solid_entries" _ x1f _ _ _ := ⟨ok_solid x1F T d7, PySem.W.mg_of X G x1a, x1k, x1b⟩
  have dx2 : DefAt P w K mg base "names_within" _ x2f _ _ _ := ⟨ok_within x2F T, PySem.W.mg_of X G x2a, x2k, x2b⟩
  have TTk : TokTxt K mg CTk := ⟨⟨q_tm, q_ti, q_tk⟩, PySem.W.mg_of X G q_ta⟩
  have NTb : NoteTxt P w K mg base CNb fNb _ := ⟨⟨q_nm, q_ni, q_nf, q_nk⟩, PySem.W.mg_of X G q_na, ok_ninit FNb ⟨q_npg, q_nhd, q_npo, q_nsa⟩ q_nrw, bNb⟩
  have OI := ok_init (P := P) (w := w) (base := base) FI T PT low0 d12 d14 dx1 dx2 TTk NTb
  have d5 : DefAt P w K mg base "joined" _ f5 _ _ _ := ⟨ok_joined F5, PySem.W.mg_of X G a5, k5, b5⟩
  have d15 : DefAt P w K mg base "items_by_place" _ f15 _ _ _ := ⟨ok_items F15 T PT, PySem.W.mg_of X G a15, k15, b15⟩
  have d16 : DefAt P w K mg base "targets_of" _ f16 _ _ _ := ⟨ok_targets F16 T d3, PySem.W.mg_of X G a16, k16, b16⟩
  have d24 : DefAt P w K mg base "is_empty_place" _ f24 _ _ _ := ⟨ok_empty_place F24 T, PySem.W.mg_of X G a24, k24, b24⟩
  have d22 : DefAt P w K mg base "is_list_of_places" _ f22 _ _ _ := ⟨ok_places F22 T T.n_tuple d2 d3, PySem.W.mg_of X G a22, k22, b22⟩
  have d23 : DefAt P w K mg base "read_by" _ f23 _ _ _ := ⟨ok_read F23 T d4 d5, PySem.W.mg_of X G a23, k23, b23⟩
  have d20 : DefAt P w K mg base "leads_on" _ f20 _ _ _ := ⟨ok_leads F20 T T.n_any d5, PySem.W.mg_of X G a20, k20, b20⟩
  have d19 : DefAt P w K mg base "is_trail" _ f19 _ _ _ := ⟨ok_trail F19 T T.n_range T.n_tuple d4 d20, PySem.W.mg_of X G a19, k19, b19⟩
  have d18 : DefAt P w K mg base "holds_shown" _ f18 _ _ _ := ⟨ok_shown F18 T PT T.n_tuple d15 d2 d19, PySem.W.mg_of X G a18, k18, b18⟩
  have d21 : DefAt P w K mg base "holds_absent" _ f21 _ _ _ := ⟨ok_absent F21 T T.n_dict d15 d16 d22 d23 d24, PySem.W.mg_of X G a21, k21, b21⟩
  have d17 : DefAt P w K mg base "holds" _ f17 _ _ _ := ⟨ok_holds F17 T T.n_tuple d2 d18 d21, PySem.W.mg_of X G a17, k17, b17⟩
  have d26 : DefAt P w K mg base "_law_facts" _ f26 _ _ _ := ⟨ok_lfacts F26, PySem.W.mg_of X G a26, k26, b26⟩
  have d27 : DefAt P w K mg base "_law_table" _ f27 _ _ _ := ⟨ok_ltable F27, PySem.W.mg_of X G a27, k27, b27⟩
  have d28 : DefAt P w K mg base "_law_right_papers" _ f28 _ _ _ := ⟨ok_lright F28 d26 d27, PySem.W.mg_of X G a28, k28, b28⟩
  have d29 : DefAt P w K mg base "_law_wrong_shown" _ f29 _ _ _ := ⟨ok_lshown F29 T d26, PySem.W.mg_of X G a29, k29, b29⟩
  have d30 : DefAt P w K mg base "_law_wrong_absent" _ f30 _ _ _ := ⟨ok_labsent F30 T T.n_dict d27, PySem.W.mg_of X G a30, k30, b30⟩
  have d25 : DefAt P w K mg base "_law_farm" _ f25 _ _ _ := ⟨ok_lfarm F25 MI OI (PySem.W.mg_of X G aK) bI2, PySem.W.mg_of X G a25, k25, b25⟩
  exact ok_law F31 d25 d28 d29 d30 d17
theorem walk {l : PySem.W.OpenLaw} {q : Program} {loose : List Str} {XP : (Str → Option Value) → Heap → Prop} {YP : World → Heap → Prop} {d : DefRec} {K : Params → PySem.W.Frag} (hn : l.most = some 63) (hdf : d.params.defaults = [])
    (hY : ∀ (w : World) (h : Heap), YP w h → (K w.params).In h)
    (F : ∀ (w : World) (mg : Str → Option Value) (fa : Addr) (h : Heap), (K w.params).In h → h.Ns mainGlobals mg → mg d.name = some (.ref fa) →
      ∃ fd : FuncData, (∀ (s : Shared) (u : Value), BindsTo s fd ⟨[u], []⟩ [("_law_script", u)]) ∧ ∀ base : Heap, (K w.params).In base → base.Ns mainGlobals mg → FnG l.prog w (K w.params) mg base CX0 11 fa fd ["_law_script"] (spLaw (K w.params))) :
    PySem.W.WalkO q loose XP YP l.row.toRowW d [] (fun f vs => PySem.call f vs) :=
  walkG (n := 63) (k := 11) (x := "_law_script") (sp := spLaw) hn (by decide) hdf ⟨rfl, by decide, by decide⟩ hY F (fun K H a ns hl hS => ⟨a, ns, rfl, hS, hl, fun _ => rfl⟩)
end KF

open PySem PySem.W PyProof.Rows in
set_option maxRecDepth 100000 in
set_option maxHeartbeats 0 in
theorem PySem.Challenge.cw_linkfarms_k90_papers_by_hand_holds : PySem.Challenge.rw_linkfarms_k90_papers_by_hand.Holds := by
  w_on; o_law; k_head; (case hw => w_witness2)
  k_fill
  refine KF.walk (l := PySem.Challenge.rw_linkfarms_k90_papers_by_hand) rfl rfl (fun w h Y => PySem.W.kIn_of Y) ?F
  case F =>
    intro w mg fa h KX G hmg
    refine' KF.all_mk KX G hmg ?e0a ?e0x ?e0sa ?e0ga ?e0gg ?e0nb ?e0i ?e0t ?e0l ?e0c ?e0k ?e0e ?e0ty ?e0hd ?e0ic ?e0ss ?e0ha ?e0hm ?zI2 ?zI3 ?zI4 ?zI5 ?z_isinstance ?z_str ?z_len ?z_all ?z_any ?z_tuple ?z_list ?z_dict ?z_sorted ?z_range ?z_abs ?z_int ?z_bool ?z_repr ?z_max ?z_set ?z_min ?z_ValueError ?z_OverflowError ?a1 ?l1 ?c1 ?k1 ?a2 ?l2 ?c2 ?k2 ?a3 ?l3 ?c3 ?k3 ?a4 ?l4 ?c4 ?k4 ?a5 ?l5 ?c5 ?k5 ?a6 ?l6 ?c6 ?k6 ?a7 ?l7 ?c7 ?k7 ?a8 ?l8 ?c8 ?k8 ?a9 ?l9 ?c9 ?k9 ?a10 ?l10 ?c10 ?k10 ?a11 ?l11 ?c11 ?k11 ?a12 ?l12 ?c12 ?k12 ?a13 ?l13 ?c13 ?k13 ?a14 ?l14 ?c14 ?k14 ?a15 ?l15 ?c15 ?k15 ?a16 ?l16 ?c16 ?k16 ?a17 ?l17 ?c17 ?k17 ?a18 ?l18 ?c18 ?k18 ?a19 ?l19 ?c19 ?k19 ?a20 ?l20 ?c20 ?k20 ?a21 ?l21 ?c21 ?k21 ?a22 ?l22 ?c22 ?k22 ?a23 ?l23 ?c23 ?k23 ?a24 ?l24 ?c24 ?k24 ?a25 ?l25 ?c25 ?k25 ?a26 ?l26 ?c26 ?k26 ?a27 ?l27 ?c27 ?k27 ?a28 ?l28 ?c28 ?k28 ?a29 ?l29 ?c29 ?k29 ?a30 ?l30 ?c30 ?k30 ?a31 ?l31 ?c31 ?k31 ?aK ?pg ?hd ?po ?saK ?mkK ?kcK ?nE ?aL ?gL ?aI ?iI ?lI ?cI ?kI ?lT ?hnN ?htN ?haK ?hmK ?x0a ?x0l ?x0c ?x0k ?x1a ?x1l ?x1c ?x1k ?x2a ?x2l ?x2c ?x2k ?naS ?naR ?naT ?naN ?q_ta ?q_tm ?q_ti ?q_tk ?q_na ?q_nm ?q_ni ?q_nf ?q_nk ?q_nl ?q_nc ?q_nkf ?q_npg ?q_nhd ?q_npo ?q_nsa ?q_nrw
    (case e0a => k_is)
    (case e0x => k_is)
    (case e0sa => k_is)
    (case e0ga => k_is)
    (case e0gg => k_is)
    (case e0nb => k_is)
    (case e0i => k_is)
    (case e0t => k_is)
    (case e0l => k_is)
    (case e0c => k_is)
    (case e0k => k_is)
    (case e0e => k_is)
    (case e0ty => k_is)
    (case e0hd => k_is)
    (case e0ic => k_is)
    (case e0ss => first | rfl | k_is)
    (case e0ha => k_is)
    (case e0hm => k_is)
    (case zI2 => k_is)
    (case zI3 => k_is)
    (case zI4 => k_is)
    (case zI5 => k_is)
    (case z_isinstance => k_is)
    (case z_str => k_is)
    (case z_len => k_is)
    (case z_all => k_is)
    (case z_any => k_is)
    (case z_tuple => k_is)
    (case z_list => k_is)
    (case z_dict => k_is)
    (case z_sorted => k_is)
    (case z_range => k_is)
    (case z_abs => k_is)
    (case z_int => k_is)
    (case z_bool => k_is)
    (case z_repr => k_is)
    (case z_max => k_is)
    (case z_set => k_is)
    (case z_min => k_is)
    (case z_ValueError => k_is)
    (case z_OverflowError => k_is)
    (case a1 => k_is)
    (case l1 => k_is)
    (case c1 => k_is)
    (case k1 => k_is)
    (case a2 => k_is)
    (case l2 => k_is)
    (case c2 => k_is)
    (case k2 => k_is)
    (case a3 => k_is)
    (case l3 => k_is)
    (case c3 => k_is)
    (case k3 => k_is)
    (case a4 => k_is)
    (case l4 => k_is)
    (case c4 => k_is)
    (case k4 => k_is)
    (case a5 => k_is)
    (case l5 => k_is)
    (case c5 => k_is)
    (case k5 => k_is)
    (case a6 => k_is)
    (case l6 => k_is)
    (case c6 => k_is)
    (case k6 => k_is)
    (case a7 => k_is)
    (case l7 => k_is)
    (case c7 => k_is)
    (case k7 => k_is)
    (case a8 => k_is)
    (case l8 => k_is)
    (case c8 => k_is)
    (case k8 => k_is)
    (case a9 => k_is)
    (case l9 => k_is)
    (case c9 => k_is)
    (case k9 => k_is)
    (case a10 => k_is)
    (case l10 => k_is)
    (case c10 => k_is)
    (case k10 => k_is)
    (case a11 => k_is)
    (case l11 => k_is)
    (case c11 => k_is)
    (case k11 => k_is)
    (case a12 => k_is)
    (case l12 => k_is)
    (case c12 => k_is)
    (case k12 => k_is)
    (case a13 => k_is)
    (case l13 => k_is)
    (case c13 => k_is)
    (case k13 => k_is)
    (case a14 => k_is)
    (case l14 => k_is)
    (case c14 => k_is)
    (case k14 => k_is)
    (case a15 => k_is)
    (case l15 => k_is)
    (case c15 => k_is)
    (case k15 => k_is)
    (case a16 => k_is)
    (case l16 => k_is)
    (case c16 => k_is)
    (case k16 => k_is)
    (case a17 => k_is)
    (case l17 => k_is)
    (case c17 => k_is)
    (case k17 => k_is)
    (case a18 => k_is)
    (case l18 => k_is)
    (case c18 => k_is)
    (case k18 => k_is)
    (case a19 => k_is)
    (case l19 => k_is)
    (case c19 => k_is)
    (case k19 => k_is)
    (case a20 => k_is)
    (case l20 => k_is)
    (case c20 => k_is)
    (case k20 => k_is)
    (case a21 => k_is)
    (case l21 => k_is)
    (case c21 => k_is)
    (case k21 => k_is)
    (case a22 => k_is)
    (case l22 => k_is)
    (case c22 => k_is)
    (case k22 => k_is)
    (case a23 => k_is)
    (case l23 => k_is)
    (case c23 => k_is)
    (case k23 => k_is)
    (case a24 => k_is)
    (case l24 => k_is)
    (case c24 => k_is)
    (case k24 => k_is)
    (case a25 => k_is)
    (case l25 => k_is)
    (case c25 => k_is)
    (case k25 => k_is)
    (case a26 => k_is)
    (case l26 => k_is)
    (case c26 => k_is)
    (case k26 => k_is)
    (case a27 => k_is)
    (case l27 => k_is)
    (case c27 => k_is)
    (case k27 => k_is)
    (case a28 => k_is)
    (case l28 => k_is)
    (case c28 => k_is)
    (case k28 => k_is)
    (case a29 => k_is)
    (case l29 => k_is)
    (case c29 => k_is)
    (case k29 => k_is)
    (case a30 => k_is)
    (case l30 => k_is)
    (case c30 => k_is)
    (case k30 => k_is)
    (case a31 => k_is)
    (case l31 => k_is)
    (case c31 => k_is)
    (case k31 => k_is)
    (case aK => k_is)
    (case pg => k_is)
    (case hd => k_is)
    (case po => k_is)
    (case saK => k_is)
    (case mkK => k_is)
    (case kcK => k_is)
    (case nE => k_is)
    (case aL => k_is)
    (case gL => first | k_is | rfl)
    (case aI => k_is)
    (case iI => k_is)
    (case lI => k_is)
    (case cI => k_is)
    (case kI => k_is)
    (case lT => k_is)
    (case hnN => k_is)
    (case htN => k_is)
    (case haK => k_is)
    (case hmK => k_is)
    (case x0a => k_is)
    (case x0l => k_is)
    (case x0c => k_is)
    (case x0k => k_is)
    (case x1a => k_is)
    (case x1l => k_is)
    (case x1c => k_is)
    (case x1k => k_is)
    (case x2a => k_is)
    (case x2l => k_is)
    (case x2c => k_is)
    (case x2k => k_is)
    (case naS => k_is)
    (case naR => k_is)
    (case naT => k_is)
    (case naN => k_is)
    (case q_ta => k_is)
    (case q_tm => k_is)
    (case q_ti => k_is)
    (case q_tk => k_is)
    (case q_na => k_is)
    (case q_nm => k_is)
    (case q_ni => k_is)
    (case q_nf => k_is)
    (case q_nk => k_is)
    (case q_nl => k_is)
    (case q_nc => k_is)
    (case q_nkf => k_is)
    (case q_npg => k_is)
    (case q_nhd => k_is)
    (case q_npo => k_is)
    (case q_nsa => k_is)
    (case q_nrw => k_is)
#print axioms PySem.Challenge.cw_linkfarms_k90_papers_by_hand_holds

