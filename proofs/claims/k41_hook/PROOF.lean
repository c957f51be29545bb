import PyProof.Rows.All
import Wide.All
import OpenK.AllK
import Wide.FinOn
import PyProof.EqAt
import PyProof.EqKinds
import PyProof.TupleCall
import PyProof.DictCompW
import KE.DataMinMax
import HandS.ForMost
import HandS.ForExc
import HandS.DictComp
import HandS.DictTup
import HandS.TupLen
import HandS.IsInst
import HandS.OwnEq
import HandS.Defaults
import HandS.MakeKw
import HandS.SortKw
import HandS.Codes
import HandS.Flow
import HandS.Zip
import HandS.Walk
import HandS.Deep
import HandS.HotCalls
import HandS.ExcCtx
import HandS.ExcInit
import HandS.ExcField
import HandS.Lambda
import KE.KTryMore
import HandS.ClsMeth
import KE.KDflt
import PyProof.InstNe
import OpenK.KEqL
import HandS.TryOnly
import HandS.Text
import HandS.FStr
import KE.KCallOwn
import PyProof.StrOps2
import HandS.SuiteRaise
import HandS.RaiseFrom
import HandS.ExcInitHot
import HandS.WordsDict
import OpenK.KOps
import PyProof.Conv_bool
import HandS.Conv
import HandS.EndTab
import KE.KStateDown
import HandS.Base
import HandS.Call
import HandS.Ends
import HandS.More
import HandS.Words
import HandS.WordsExc
import HandS.Head0
import HandS.Head1
import HandS.Head2
import HandS.HeadEnd
import HandS.HeadHook1
import HandS.HeadHook2
import HandS.HeadHook3
import HandS.HeadHook4
import HandS.HeadWalk
import PySem.Challenge.RW_farlanes_k41_whole_texts_are_maps_or_non
set_option Elab.async false
set_option linter.all false
set_option maxRecDepth 100000
set_option maxHeartbeats 4000000
/-! Rules of our own over the hand layer: dict comprehensions with tuple keys (one for, two fors), min with a default. -/
namespace L2.FL
open PySem PySem.Spec PyProof.Rows

/-- the store of a dict comprehension under a key that is a tuple -/
theorem dset_tup {X : Cx} {pins : List (Addr × Obj)} {σ : St} {H : Hp} {s : Shared} {E : Value → Shared → Prop} {D b : Addr}
    {kvs : List (List Key × V)} {k : List Key} {v : V} {r : Value} {Q : Unit → Shared → Prop}
    (hu : X.A.units < cLine) (I : Inv X pins σ H s) (hD : H D = some (.dT kvs)) (hb : H b = some (.tup (k.map kV)))
    (hz : kvs.length < sizeLine) (rv : RelV v r)
    (done : ∀ s', Inv X pins σ (upd H D (.dT (putK kvs k v))) s' → Q () s') :
    wpAny (model X.prog X.w) X.A (dictSet D (.ref b) r) Q E s := by
  obtain ⟨z, hd, xs, rel, dd⟩ := dt_of I.hok hD
  have hzx : xs.length ≤ sizeLine := Paired.length rel ▸ z
  have hl : (putK kvs k v).length ≤ sizeLine := Nat.le_trans (length_putK kvs k v) hz
  refine wpAny_dictSet_heap (hsz := hzx) (knd := tupleKind (mixKind X.prog X.w)) hu (key_of I.hok hb) dd fun h' dd' hs => done _ ?_
  obtain ⟨q, es, ep, hq, e2, e3, e4, _, e5⟩ := dd'
  have tups : ∀ c ys, H c = some (.tup ys) → upd H D (.dT (putK kvs k v)) c = some (.tup ys) := fun c ys ec => by
    rw [upd_ne (ne_of ec hD (fun y => nomatch y))]; exact ec
  exact d_write I (by rw [hD]; trivial) hs ⟨q, hq⟩ ⟨hl, hd, _, (rel.put k hb rv).keeps tups, q, es, ep, hq, e2, e3, e4, e5⟩

/-! ### {k: v for target in iter}, the keys tuples -/
section
variable {X : Cx}
/-- what the comprehension asks; D is the new dict -/
def tDcT (wi : TI) (g : TG) (tk tv : TE) (vs : List Nat) : TE := fun σ H Q => wi σ H fun J H1 => ∀ D, H1 D = none →
  ∃ W : Nat → Nat → Hp → Prop, (∃ m, W 0 m (upd H1 D (.dT []))) ∧ ∀ i m H, W i m H →
    (J.stop i H ∧ Q (.ref D) H) ∨
    (J.go i H ∧ ∃ Nx : Hp → Prop, (∀ H', Nx H' → ∃ m', m' < m ∧ W (i + 1) m' H') ∧ ∀ x H', J.yld i H x H' →
      g x (wipe σ vs) H' fun σ2 H2 => wipe σ2 vs = wipe σ vs ∧ tk σ2 H2 fun y H4 => tv σ2 H4 fun z H5 =>
        ∃ kvs k b, y = .ref b ∧ H5 b = some (.tup (k.map kV)) ∧ H5 D = some (.dT kvs) ∧ kvs.length < sizeLine ∧ Nx (upd H5 D (.dT (putK kvs k z))))

abbrev blkC (X : Cx) (scope : Scope) (s : Shared) (H : Hp) (C : Addr) (cl : List (Str × Addr)) (fp : List Addr) : Cx :=
  X.blk s H scope (compEnvC scope cl C X.env) fp

theorem dcT_core {pins : List (Addr × Obj)} {s : Shared} {σ : St} {H : Hp} {Q : VK} {kx vx tg iter : Expr} {scope : Scope}
    {own : List (Str × Nat)} {pos pos' : Pos} {wi : TI} {g : TG} {tk tv : TE} {use : Option (Value → Sem Unit)} {Qf : Value → Shared → Prop}
    (hu : X.A.units < cLine) (hc : X.calm = true) (hN : X.N.Nodup) (I : Inv X pins σ H s) (hi : PI X tg iter wi)
    (ok : BlkOk X.N X.env.scope scope own)
    (hg : ∀ s H C cl fp, PG (blkC X scope s H C cl fp) tg g)
    (hk : ∀ s H C cl fp, PE (blkC X scope s H C cl fp) kx tk)
    (he : ∀ s H C cl fp, PE (blkC X scope s H C cl fp) vx tv)
    (hs : ∀ x, foldedSetIterable iter X.env x = pure x)
    (h : tDcT wi g tk tv (own.map (·.2)) σ H Q)
    (hRR : ∀ D C s' m H', Inv X pins σ H' s' → Q (.ref D) H' → s'.heap.Ns C m → FpOk X pins H' C →
      compPost (model X.prog X.w) X.A X.xe use Qf (.ref D) C (.ok .next) s') :
    wpAny (model X.prog X.w) X.A
      (comprehension (.DictComp kx vx [⟨tg, iter, [], 0⟩] scope pos) scope X.env pos' newDict false (eval iter X.env) use) Qf X.xe s := by
  have free' : ∀ y ∈ scope.names, y.2 = .free → ∃ c, X.env.cells.lookup y.1 = some c := fun y hy e =>
    (ok.free y hy e).elim (fun k => I.ok.has _ (.inl k)) fun k => I.ok.has _ (.inr k)
  refine wpAny_comprehension_free (use := use) rfl hs (closure_ok free') ok.kind (fun y hy e => by rw [ok.uniq y hy, e]) ?_
  refine thn (hi.run pins s σ H _ I h) fun xv s1 hx => thn hx fun itv s2 h2 => ?_
  obtain ⟨it, fp, tn, J, H2, rfl, I2, T, st2, f2, q⟩ := h2
  refine wpAny_newObj_type (newEnv_comp ?_)
  generalize hD : s2.heap.objs.size = D
  obtain ⟨W, ⟨m0, w0⟩, turn⟩ := q D (I2.hok.fresh (Nat.le_of_eq hD))
  generalize hs3 : ({ s2 with heap := s2.heap.push { cls := .type "dict", data := .dict #[] } } : Shared) = s3
  have hp3 : s3.heap = s2.heap.push { cls := .type "dict", data := .dict #[] } := hs3 ▸ rfl
  have I3 : Inv X pins σ (upd H2 D (.dT [])) s3 := by
    subst hs3 hD
    exact I2.laid (t' := s2.toks) (fun b o e => Heap.get?_push_of_some _ e) (Nat.le_refl _) (dt_empty s2.heap I2.big)
  have below : ∀ b ∈ fp, b < s2.heap.objs.size := fun b hb =>
    let ⟨o, e, _⟩ := T.obj _ _ st2 b hb
    Heap.lt_size e
  have f3 : ∀ b ∈ fp, FpOk X pins (upd H2 D (.dT [])) b ∧ b < s3.heap.objs.size := fun b hb => by
    refine ⟨⟨?_, (f2 b hb).2⟩, by rw [hp3, Heap.size_push]; exact Nat.lt_succ_of_lt (below b hb)⟩
    rw [upd_ne (hD ▸ Nat.ne_of_lt (below b hb))]; exact (f2 b hb).1
  have st3 : tn 0 s3.heap := T.keep _ _ _ st2 fun b _ o e => by rw [hp3]; exact Heap.get?_push_of_some _ e
  have I4 := block_start I3 ok hN f3
  generalize hcl : cellsFrom (s3.heap.objs.size + 1) scope.names (cloFrom X.env.cells scope.names []) = cl at I4
  have pg := hg s3 (upd H2 D (.dT [])) s3.heap.objs.size cl fp
  have pk := hk s3 (upd H2 D (.dT [])) s3.heap.objs.size cl fp
  have pe := he s3 (upd H2 D (.dT [])) s3.heap.objs.size cl fp
  have nfp : ∀ b ∈ fp, (upd H2 D (.dT [])) b = none := fun b hb => (f3 b hb).1.1
  subst hcl
  show codeAny _ _ (.compStart _ 0 (.ref it) (.ref D) (compEnvC scope (cellsFrom (s3.heap.objs.size + 1) scope.names (cloFrom X.env.cells scope.names [])) s3.heap.objs.size X.env)) _ { s3 with heap := pushCells (s3.heap.push { cls := .type "dict", data := .dict #[] }) scope.names }
  unfold blkC at pg pk pe
  generalize hce : compEnvC scope (cellsFrom (s3.heap.objs.size + 1) scope.names (cloFrom X.env.cells scope.names [])) s3.heap.objs.size X.env = ce at I4 pg pk pe ⊢
  have cL : ce.locals = s3.heap.objs.size := hce ▸ rfl
  generalize hH3 : upd H2 D (.dT []) = H3 at I3 I4 pg pk pe w0 nfp f3
  generalize hs4 : ({ s3 with heap := pushCells (s3.heap.push { cls := .type "dict", data := .dict #[] }) scope.names } : Shared) = s4 at I4 ⊢
  have st4 : tn 0 s4.heap := T.keep _ _ _ st3 fun b _ o e => hs4 ▸ pushCells_keeps _ _ _ _ (Heap.get?_push_of_some _ e)
  generalize hB : X.blk s3 H3 scope ce fp = B at I4 pg pk pe
  have bX : B.prog = X.prog ∧ B.w = X.w ∧ B.A = X.A := by subst hB; exact ⟨rfl, rfl, rfl⟩
  have stat : ∀ {σ' : St} {H' : Hp} {s' : Shared}, Inv B [] σ' H' s' → (∀ b ∈ fp, H' b = none) → ∀ b ∈ fp, FpOk B [] H' b := fun I' hn b hb => by
    subst hB
    exact ⟨hn b hb, (I'.ok.exf b hb).1, I'.ok.exfs b hb, .inl hb, fun x c e => (I'.ok.exf b hb).2 x c e, fun p hp => absurd hp (by simp)⟩
  have loop : codeAny (model X.prog X.w) X.A (.compLoop (.DictComp kx vx [⟨tg, iter, [], 0⟩] scope pos) 0 (.ref it) (.ref D) ce)
      (compPost (model X.prog X.w) X.A X.xe use Qf (.ref D) s3.heap.objs.size) s4 := by
    refine compLoop_anyD (fun n s' => ∃ i H', Inv B [] (wipe σ (own.map (·.2))) H' s' ∧ tn i s'.heap ∧ (∀ b ∈ fp, H' b = none) ∧ W i n H') ?_ m0 ⟨0, H3, I4, st4, nfp, w0⟩
    rintro n s5 ⟨i, H5, I5, st5, n5, w5⟩
    rcases turn i n H5 w5 with ⟨stop, qq⟩ | ⟨go, Nx, hNx, step⟩
    · subst hB
      refine thnF (T.done (X.blk s3 H3 scope ce fp) rfl rfl rfl hc i [] s5 _ H5 (fun _ _ => False) I5 (stat I5 n5) st5 stop) fun r s6 ⟨hr, I6⟩ => ?_
      subst hr
      have I7 : Inv X pins σ H5 s6 := I3.call' (ch := fp) I6.os I6.base I6.hok I6.bare fun b hb =>
        let z := (f3 b hb).1
        ⟨z.2.2.2.1, z.2.1, z.2.2.2.2.1, z.2.2.2.2.2⟩
      have nC : H5 s3.heap.objs.size = none := cL ▸ (I6.free : H5 ce.locals = none)
      obtain ⟨m, hn, _⟩ := I6.loc
      have hn : s6.heap.Ns s3.heap.objs.size m := cL ▸ (hn : s6.heap.Ns ce.locals m)
      exact hRR D _ s6 m H5 I7 qq hn (I3.fpOk (Nat.le_refl _) nC)
    · subst hB
      refine thnF (T.item (X.blk s3 H3 scope ce fp) rfl rfl rfl hc i [] s5 _ H5 (fun _ _ => False) I5 (stat I5 n5) st5 go) fun r s6 ⟨u, hr, h6⟩ => ?_
      subst hr
      refine thnF h6 fun _ s7 ⟨x, H7, I7, r7, y7, st7, n7⟩ => ?_
      have I7' := I7.pinned (stat I7 n7) (T.obj _ _ st7)
      refine thnF (pg.run _ s7 _ H7 x u _ I7' r7 (step x H7 y7)) fun _ s8 ⟨σ8, H8, I8, hw8, q8⟩ => ?_
      refine wpAny_pure ?_
      simp only [if_true]
      refine thnF (pk.run _ s8 σ8 H8 _ I8 q8) fun z s10 ⟨yk, H10, I10, r10, q10⟩ => ?_
      refine thnF (pe.run _ s10 σ8 H10 _ I10 q10) fun z2 s11 ⟨yv, H11, I11, r11, kvs, k, b, ek, hb11, hD11, hz11, nx⟩ => ?_
      subst ek
      obtain rfl : z = Value.ref b := r10
      refine dset_tup (X := X.blk s3 H3 scope ce fp) hu I11 hD11 hb11 hz11 r11 fun s12 I12 => ?_
      obtain ⟨m', hm, w'⟩ := hNx _ nx
      have pin' : ∀ b ∈ fp, ∀ o, s7.heap.get? b = some o → s12.heap.get? b = some o ∧ (upd H11 D (.dT (putK kvs k yv))) b = none := fun b hb o e =>
        let z := I12.pin (b, o) (List.mem_append_right _ (List.mem_append_right _ (mem_pinsAt hb e)))
        ⟨z.1, z.2.1⟩
      have hl : (wipe σ (own.map (·.2))).length = σ8.length := by rw [← hw8, wipe_length]
      refine ⟨m', hm, i + 1, _, (I12.unpinned (pins := [])).weak hl (fun j v e => ?_), T.keep _ _ _ st7 fun b hb o e => (pin' b hb o e).1, fun b hb => ?_, w'⟩
      · exact (wipe_some (hw8 ▸ e)).1
      · obtain ⟨o, e, _⟩ := T.obj _ _ st7 b hb
        exact (pin' b hb o e).2
  exact codeAny_compStart_dict loop (T.self X.A 0 _ _ _ st4 loop)
/-- as a value -/
theorem pe_dcT {kx vx tg iter : Expr} {scope : Scope} {own : List (Str × Nat)} {pos : Pos} {wi : TI} {g : TG} {tk tv : TE}
    (hu : X.A.units < cLine) (hc : X.calm = true) (hN : X.N.Nodup) (hi : PI X tg iter wi) (ok : BlkOk X.N X.env.scope scope own)
    (hg : ∀ s H C cl fp, PG (blkC X scope s H C cl fp) tg g)
    (hk : ∀ s H C cl fp, PE (blkC X scope s H C cl fp) kx tk)
    (he : ∀ s H C cl fp, PE (blkC X scope s H C cl fp) vx tv)
    (hs : ∀ x, foldedSetIterable iter X.env x = pure x := by intro _; rfl) :
    PE X (.DictComp kx vx [⟨tg, iter, [], 0⟩] scope pos) (tDcT wi g tk tv (own.map (·.2))) := by
  refine ⟨fun pins s σ H Q I h => ?_⟩
  rw [arm_eval_DictComp]
  refine dcT_core hu hc hN I hi ok hg hk he hs h fun D C s' m H' I' q hn f => ⟨m, hn, fun h'' sb => ?_⟩
  obtain ⟨f0, f1, _, f3, f4, f5⟩ := f
  exact ⟨.ref D, H', I'.turned (t' := s'.toks) (fun b o hb e => (sb.2 b hb).trans e) f0 f1 f3 f4 f5, rfl, q⟩
end

/-! ### {k: v for t0 in i0 for t1 in i1}, the keys tuples -/
section
variable {prog : Program} {w : World} {A : Around} {R : Result → Shared → Prop} {s : Shared} {kx vx t0 i0 t1 i1 : Expr} {scope : Scope} {pos : Pos} {it : Value} {D : Addr} {env : Env}
abbrev dc2 (kx vx t0 i0 t1 i1 : Expr) (scope : Scope) (pos : Pos) : Expr := .DictComp kx vx [⟨t0, i0, [], 0⟩, ⟨t1, i1, [], 0⟩] scope pos
theorem dc2_outer_turn : compTurn (dc2 kx vx t0 i0 t1 i1 scope pos) 0 it (.ref D) env = (do
      standAt i0.pos
      match ← pyNext it with
      | none => pure (.done .next)
      | some v =>
        letOwnedTupleGo t0 it v
        assign t0 env v
        let x ← eval i1 env
        standAt i1.pos
        let x ← foldedSetIterable i1 env x
        let _ ← runOwn (.compStart (dc2 kx vx t0 i0 t1 i1 scope pos) 1 (← holding [x] (pyIter x)) (.ref D) env) env
        again (.compLoop (dc2 kx vx t0 i0 t1 i1 scope pos) 0 it (.ref D) env)) := by rfl
theorem dc2_inner_turn : compTurn (dc2 kx vx t0 i0 t1 i1 scope pos) 1 it (.ref D) env = (do
      standAt i1.pos
      match ← pyNext it with
      | none => pure (.done .next)
      | some v =>
        letOwnedTupleGo t1 it v
        assign t1 env v
        (do
          let kv ← eval kx env
          let vv ← holding [kv] (eval vx env)
          standAt { kx.pos with endLine := vx.pos.endLine, endCol := vx.pos.endCol }
          holding [kv, vv] (dictSet D kv vv))
        again (.compLoop (dc2 kx vx t0 i0 t1 i1 scope pos) 1 it (.ref D) env)) := by rfl
/-- what a raise in the block is asked -/
abbrev nb (prog : Program) (w : World) (A : Around) (env : Env) (R : Result → Shared → Prop) : Value → Shared → Prop :=
  notedBy (model prog w) A env fun e s' => R (.error e) s'
theorem dc2_outer (hs : ∀ x, foldedSetIterable i1 env x = pure x) (I : Nat → Shared → Prop)
    (turn : ∀ n s, I n s → wpAny (model prog w) A (pyNext it) (fun r s1 => match r with
      | none => R (.ok .next) s1
      | some v => wpAny (model prog w) A (letOwnedTupleGo t0 it v) (fun _ s2 =>
          wpAny (model prog w) A (assign t0 env v) (fun _ s3 =>
            wpAny (model prog w) A (eval i1 env) (fun x s4 =>
              wpAny (model prog w) A (pyIter x) (fun it1 s5 =>
                codeAny (model prog w) A (.compStart (dc2 kx vx t0 i0 t1 i1 scope pos) 1 it1 (.ref D) env) (fun r s' => match r with
                  | .ok _ => ∃ m, m < n ∧ I m s'
                  | .error _ => False) s5) (nb prog w A env R) s4) (nb prog w A env R) s3) (nb prog w A env R) s2) (nb prog w A env R) s1) (nb prog w A env R) s)
    (n : Nat) (h : I n s) :
    codeAny (model prog w) A (.compLoop (dc2 kx vx t0 i0 t1 i1 scope pos) 0 it (.ref D) env) R s := by
  refine codeAny_loop rfl I (fun n s hI => ?_) n h
  show wpAny _ A ((compTurn (dc2 kx vx t0 i0 t1 i1 scope pos) 0 it (.ref D) env).onRaise (fun x => do noteFrame x env; theTreesLotGoes x)) _ _ s
  refine wpAny_noted ?_
  rw [dc2_outer_turn]
  refine wpAny_bind (wpAny_standAt (wpAny_bind (wpAny_mono (turn n s hI) (fun r s1 z1 => ?_) fun _ _ z => z)))
  cases r with
  | none => exact wpAny_pure z1
  | some v =>
    refine wpAny_bind (wpAny_mono z1 (fun _ s2 z2 => wpAny_bind (wpAny_mono z2 (fun _ s3 z3 => ?_) fun _ _ z => z)) fun _ _ z => z)
    refine wpAny_bind (wpAny_mono z3 (fun x s4 z4 => ?_) fun _ _ z => z)
    refine wpAny_bind (wpAny_standAt (wpAny_bind (wpAny_of_eq (hs x) (wpAny_bind (wpAny_holding (wpAny_mono z4 (fun it1 s5 z5 => ?_) fun _ _ z => z))))))
    refine wpAny_bind (wpAny_runOwn ?_)
    rw [Around.mark_none]
    refine codeAny_mono z5 fun r s' hr => ?_
    cases r with
    | error e => exact hr.elim
    | ok f =>
      first
        | exact wpAny_pure ⟨rfl, hr⟩
        | exact wpAny_bind (wpAny_pure (wpAny_pure ⟨rfl, hr⟩))
theorem dc2_inner (I : Nat → Shared → Prop)
    (turn : ∀ n s, I n s → wpAny (model prog w) A (pyNext it) (fun r s1 => match r with
      | none => R (.ok .next) s1
      | some v => wpAny (model prog w) A (letOwnedTupleGo t1 it v) (fun _ s2 =>
          wpAny (model prog w) A (assign t1 env v) (fun _ s3 =>
            wpAny (model prog w) A (eval kx env) (fun kv s4 =>
              wpAny (model prog w) A (eval vx env) (fun vv s5 =>
                wpAny (model prog w) A (dictSet D kv vv) (fun _ s6 => ∃ m, m < n ∧ I m s6) (nb prog w A env R) s5) (nb prog w A env R) s4) (nb prog w A env R) s3) (nb prog w A env R) s2) (nb prog w A env R) s1) (nb prog w A env R) s)
    (n : Nat) (h : I n s) :
    codeAny (model prog w) A (.compLoop (dc2 kx vx t0 i0 t1 i1 scope pos) 1 it (.ref D) env) R s := by
  refine codeAny_loop rfl I (fun n s hI => ?_) n h
  show wpAny _ A ((compTurn (dc2 kx vx t0 i0 t1 i1 scope pos) 1 it (.ref D) env).onRaise (fun x => do noteFrame x env; theTreesLotGoes x)) _ _ s
  refine wpAny_noted ?_
  rw [dc2_inner_turn]
  refine wpAny_bind (wpAny_standAt (wpAny_bind (wpAny_mono (turn n s hI) (fun r s1 z1 => ?_) fun _ _ z => z)))
  cases r with
  | none => exact wpAny_pure z1
  | some v =>
    refine wpAny_bind (wpAny_mono z1 (fun _ s2 z2 => wpAny_bind (wpAny_mono z2 (fun _ s3 z3 => ?_) fun _ _ z => z)) fun _ _ z => z)
    refine wpAny_bind (wpAny_bind (wpAny_mono z3 (fun kv s4 z4 => wpAny_bind (wpAny_holding (wpAny_mono z4 (fun vv s5 z5 => ?_) fun _ _ z => z))) fun _ _ z => z))
    exact wpAny_bind (wpAny_standAt (wpAny_holding (wpAny_mono z5 (fun _ s6 z6 => wpAny_pure ⟨rfl, z6⟩) fun _ _ z => z)))
theorem dc2_start1 (h0 : codeAny (model prog w) A (.compLoop (dc2 kx vx t0 i0 t1 i1 scope pos) 1 it (.ref D) env) R s)
    (h : wpAny (model prog w) A (pyIter it) (fun it' s' => codeAny (model prog w) A (.compLoop (dc2 kx vx t0 i0 t1 i1 scope pos) 1 it' (.ref D) env) R s') (nb prog w A env R) s) :
    codeAny (model prog w) A (.compStart (dc2 kx vx t0 i0 t1 i1 scope pos) 1 it (.ref D) env) R s := by
  refine codeAny_of_tree ?_
  show wpAny _ _ ((compStart (dc2 kx vx t0 i0 t1 i1 scope pos) 1 it (.ref D) env).onRaise (fun x => do noteFrame x env; standAt theWindowsPlace)) _ _ s
  refine wpAny_notedAt ?_
  unfold compStart
  show wpAny _ _ (ask >>= _) _ _ s
  refine wpAny_bind (wpAny_askSetting (wpAny_ite ?_))
  split
  · first
      | exact wpAny_pure (And.intro rfl h0)
      | exact wpAny_bind (wpAny_pure (wpAny_pure (And.intro rfl h0)))
  · refine wpAny_bind (wpAny_rule ?_)
    show wpAny _ _ (standAt i1.pos >>= _) _ _ s
    exact wpAny_bind (wpAny_standAt (wpAny_bind (wpAny_mono h (fun it' s' z => wpAny_pure (And.intro rfl z)) fun _ _ x => x)))
end
section
variable {X : Cx}
/-- what the comprehension with two fors asks. vs: the block's names; vs1: those of the second target -/
def tDcT2 (wi : TI) (g : TG) (wi1 : TI) (g1 : TG) (tk tv : TE) (vs vs1 : List Nat) : TE := fun σ H Q => wi σ H fun J H1 => ∀ D, H1 D = none →
  ∃ W : Nat → Nat → Hp → Prop, (∃ m, W 0 m (upd H1 D (.dT []))) ∧ ∀ i m H, W i m H →
    (J.stop i H ∧ Q (.ref D) H) ∨
    (J.go i H ∧ ∃ Nx : Hp → Prop, (∀ H', Nx H' → ∃ m', m' < m ∧ W (i + 1) m' H') ∧ ∀ x H', J.yld i H x H' →
      g x (wipe σ vs) H' fun σ2 H2 => wipe σ2 vs = wipe σ vs ∧ wi1 σ2 H2 fun J1 H4 =>
        ∃ W1 : Nat → Nat → Hp → Prop, (∃ m, W1 0 m H4) ∧ ∀ j k H, W1 j k H →
          (J1.stop j H ∧ Nx H) ∨
          (J1.go j H ∧ ∃ Nx1 : Hp → Prop, (∀ H', Nx1 H' → ∃ k', k' < k ∧ W1 (j + 1) k' H') ∧ ∀ x H', J1.yld j H x H' →
            g1 x (wipe σ2 vs1) H' fun σ3 H5 => wipe σ3 vs1 = wipe σ2 vs1 ∧ tk σ3 H5 fun y H6 => tv σ3 H6 fun z H7 =>
              ∃ kvs k b, y = .ref b ∧ H7 b = some (.tup (k.map kV)) ∧ H7 D = some (.dT kvs) ∧ kvs.length < sizeLine ∧ Nx1 (upd H7 D (.dT (putK kvs k z)))))
theorem dcT2_core {pins : List (Addr × Obj)} {s : Shared} {σ : St} {H : Hp} {Q : VK} {kx vx tg iter tg1 iter1 : Expr} {scope : Scope}
    {own : List (Str × Nat)} {vs1 : List Nat} {pos pos' : Pos} {wi wi1 : TI} {g g1 : TG} {tk tv : TE} {use : Option (Value → Sem Unit)} {Qf : Value → Shared → Prop}
    (hu : X.A.units < cLine) (hc : X.calm = true) (hN : X.N.Nodup) (I : Inv X pins σ H s) (hi : PI X tg iter wi)
    (ok : BlkOk X.N X.env.scope scope own) (hv : ∀ i ∈ vs1, i ∈ own.map (·.2))
    (hg : ∀ s H C cl fp, PG (blkC X scope s H C cl fp) tg g)
    (hi1 : ∀ s H C cl fp, PI (blkC X scope s H C cl fp) tg1 iter1 wi1)
    (hg1 : ∀ s H C cl fp, PG (blkC X scope s H C cl fp) tg1 g1)
    (hk : ∀ s H C cl fp, PE (blkC X scope s H C cl fp) kx tk)
    (he : ∀ s H C cl fp, PE (blkC X scope s H C cl fp) vx tv)
    (hs : ∀ x, foldedSetIterable iter X.env x = pure x) (hs1 : ∀ env x, foldedSetIterable iter1 env x = pure x)
    (h : tDcT2 wi g wi1 g1 tk tv (own.map (·.2)) vs1 σ H Q)
    (hRR : ∀ D C s' m H', Inv X pins σ H' s' → Q (.ref D) H' → s'.heap.Ns C m → FpOk X pins H' C →
      compPost (model X.prog X.w) X.A X.xe use Qf (.ref D) C (.ok .next) s') :
    wpAny (model X.prog X.w) X.A
      (comprehension (dc2 kx vx tg iter tg1 iter1 scope pos) scope X.env pos' newDict false (eval iter X.env) use) Qf X.xe s := by
  have free' : ∀ y ∈ scope.names, y.2 = .free → ∃ c, X.env.cells.lookup y.1 = some c := fun y hy e =>
    (ok.free y hy e).elim (fun k => I.ok.has _ (.inl k)) fun k => I.ok.has _ (.inr k)
  refine wpAny_comprehension_free (use := use) rfl hs (closure_ok free') ok.kind (fun y hy e => by rw [ok.uniq y hy, e]) ?_
  refine thn (hi.run pins s σ H _ I h) fun xv s1 hx => thn hx fun itv s2 h2 => ?_
  obtain ⟨it, fp, tn, J, H2, rfl, I2, T, st2, f2, q⟩ := h2
  refine wpAny_newObj_type (newEnv_comp ?_)
  generalize hD : s2.heap.objs.size = D
  obtain ⟨W, ⟨m0, w0⟩, turn⟩ := q D (I2.hok.fresh (Nat.le_of_eq hD))
  generalize hs3 : ({ s2 with heap := s2.heap.push { cls := .type "dict", data := .dict #[] } } : Shared) = s3
  have hp3 : s3.heap = s2.heap.push { cls := .type "dict", data := .dict #[] } := hs3 ▸ rfl
  have I3 : Inv X pins σ (upd H2 D (.dT [])) s3 := by
    subst hs3 hD
    exact I2.laid (t' := s2.toks) (fun b o e => Heap.get?_push_of_some _ e) (Nat.le_refl _) (dt_empty s2.heap I2.big)
  have below : ∀ b ∈ fp, b < s2.heap.objs.size := fun b hb =>
    let ⟨o, e, _⟩ := T.obj _ _ st2 b hb
    Heap.lt_size e
  have f3 : ∀ b ∈ fp, FpOk X pins (upd H2 D (.dT [])) b ∧ b < s3.heap.objs.size := fun b hb => by
    refine ⟨⟨?_, (f2 b hb).2⟩, by rw [hp3, Heap.size_push]; exact Nat.lt_succ_of_lt (below b hb)⟩
    rw [upd_ne (hD ▸ Nat.ne_of_lt (below b hb))]; exact (f2 b hb).1
  have st3 : tn 0 s3.heap := T.keep _ _ _ st2 fun b _ o e => by rw [hp3]; exact Heap.get?_push_of_some _ e
  have I4 := block_start I3 ok hN f3
  have pg := hg s3 (upd H2 D (.dT [])) s3.heap.objs.size (cellsFrom (s3.heap.objs.size + 1) scope.names (cloFrom X.env.cells scope.names [])) fp
  have pi1 := hi1 s3 (upd H2 D (.dT [])) s3.heap.objs.size (cellsFrom (s3.heap.objs.size + 1) scope.names (cloFrom X.env.cells scope.names [])) fp
  have pg1 := hg1 s3 (upd H2 D (.dT [])) s3.heap.objs.size (cellsFrom (s3.heap.objs.size + 1) scope.names (cloFrom X.env.cells scope.names [])) fp
  have pk := hk s3 (upd H2 D (.dT [])) s3.heap.objs.size (cellsFrom (s3.heap.objs.size + 1) scope.names (cloFrom X.env.cells scope.names [])) fp
  have pe := he s3 (upd H2 D (.dT [])) s3.heap.objs.size (cellsFrom (s3.heap.objs.size + 1) scope.names (cloFrom X.env.cells scope.names [])) fp
  have nfp : ∀ b ∈ fp, (upd H2 D (.dT [])) b = none := fun b hb => (f3 b hb).1.1
  show codeAny _ _ (.compStart _ 0 (.ref it) (.ref D) (compEnvC scope (cellsFrom (s3.heap.objs.size + 1) scope.names (cloFrom X.env.cells scope.names [])) s3.heap.objs.size X.env)) _ { s3 with heap := pushCells (s3.heap.push { cls := .type "dict", data := .dict #[] }) scope.names }
  unfold blkC at pg pi1 pg1 pk pe
  generalize hce : compEnvC scope (cellsFrom (s3.heap.objs.size + 1) scope.names (cloFrom X.env.cells scope.names [])) s3.heap.objs.size X.env = ce at I4 pg pi1 pg1 pk pe ⊢
  have cL : ce.locals = s3.heap.objs.size := hce ▸ rfl
  generalize hH3 : upd H2 D (.dT []) = H3 at I3 I4 pg pi1 pg1 pk pe w0 nfp f3
  generalize hs4 : ({ s3 with heap := pushCells (s3.heap.push { cls := .type "dict", data := .dict #[] }) scope.names } : Shared) = s4 at I4 ⊢
  have st4 : tn 0 s4.heap := T.keep _ _ _ st3 fun b _ o e => hs4 ▸ pushCells_keeps _ _ _ _ (Heap.get?_push_of_some _ e)
  have stat : ∀ {σ' : St} {H' : Hp} {s' : Shared}, Inv (X.blk s3 H3 scope ce fp) [] σ' H' s' → (∀ b ∈ fp, H' b = none) → ∀ b ∈ fp, FpOk (X.blk s3 H3 scope ce fp) [] H' b := fun I' hn b hb =>
    ⟨hn b hb, (I'.ok.exf b hb).1, I'.ok.exfs b hb, .inl hb, fun x c e => (I'.ok.exf b hb).2 x c e, fun p hp => absurd hp (by simp)⟩
  have loop : codeAny (model X.prog X.w) X.A (.compLoop (dc2 kx vx tg iter tg1 iter1 scope pos) 0 (.ref it) (.ref D) ce)
      (compPost (model X.prog X.w) X.A X.xe use Qf (.ref D) s3.heap.objs.size) s4 := by
    refine dc2_outer (hs1 ce) (fun n s' => ∃ i H', Inv (X.blk s3 H3 scope ce fp) [] (wipe σ (own.map (·.2))) H' s' ∧ tn i s'.heap ∧ (∀ b ∈ fp, H' b = none) ∧ W i n H') ?_ m0 ⟨0, H3, I4, st4, nfp, w0⟩
    rintro n s5 ⟨i, H5, I5, st5, n5, w5⟩
    rcases turn i n H5 w5 with ⟨stop, qq⟩ | ⟨go, Nx, hNx, step⟩
    · refine thnF (T.done (X.blk s3 H3 scope ce fp) rfl rfl rfl hc i [] s5 _ H5 (fun _ _ => False) I5 (stat I5 n5) st5 stop) fun r s6 ⟨hr, I6⟩ => ?_
      subst hr
      have I7 : Inv X pins σ H5 s6 := I3.call' (ch := fp) I6.os I6.base I6.hok I6.bare fun b hb =>
        let z := (f3 b hb).1
        ⟨z.2.2.2.1, z.2.1, z.2.2.2.2.1, z.2.2.2.2.2⟩
      have nC : H5 s3.heap.objs.size = none := cL ▸ (I6.free : H5 ce.locals = none)
      obtain ⟨m, hn, _⟩ := I6.loc
      have hn : s6.heap.Ns s3.heap.objs.size m := cL ▸ (hn : s6.heap.Ns ce.locals m)
      exact hRR D _ s6 m H5 I7 qq hn (I3.fpOk (Nat.le_refl _) nC)
    · refine thnF (T.item (X.blk s3 H3 scope ce fp) rfl rfl rfl hc i [] s5 _ H5 (fun _ _ => False) I5 (stat I5 n5) st5 go) fun r s6 ⟨u, hr, h6⟩ => ?_
      subst hr
      refine thnF h6 fun _ s7 ⟨x, H7, I7, r7, y7, st7, n7⟩ => ?_
      have I7' := I7.pinned (stat I7 n7) (T.obj _ _ st7)
      refine thnF (pg.run _ s7 _ H7 x u _ I7' r7 (step x H7 y7)) fun _ s8 ⟨σ8, H8, I8, hw8, q8⟩ => ?_
      -- the end of a turn of the first loop
      have fin : ∀ {σ9 : St} {s' : Shared} {H' : Hp}, Inv (X.blk s3 H3 scope ce fp) ([] ++ pinsAt fp s7.heap) σ9 H' s' → (wipe σ (own.map (·.2))).length = σ9.length →
          (∀ (j : Nat) v, (wipe σ (own.map (·.2)))[j]? = some (some v) → σ9[j]? = some (some v)) → Nx H' →
          ∃ m, m < n ∧ ∃ i H', Inv (X.blk s3 H3 scope ce fp) [] (wipe σ (own.map (·.2))) H' s' ∧ tn i s'.heap ∧ (∀ b ∈ fp, H' b = none) ∧ W i m H' := fun {σ9 s' H'} I' hl hkn nx => by
        obtain ⟨m', hm, w'⟩ := hNx H' nx
        have pin' : ∀ b ∈ fp, ∀ o, s7.heap.get? b = some o → s'.heap.get? b = some o ∧ H' b = none := fun b hb o e =>
          let z := I'.pin (b, o) (List.mem_append_right _ (List.mem_append_right _ (mem_pinsAt hb e)))
          ⟨z.1, z.2.1⟩
        refine ⟨m', hm, i + 1, H', (I'.unpinned (pins := [])).weak hl hkn, T.keep _ _ _ st7 fun b hb o e => (pin' b hb o e).1, fun b hb => ?_, w'⟩
        obtain ⟨o, e, _⟩ := T.obj _ _ st7 b hb
        exact (pin' b hb o e).2
      have hl8 : (wipe σ (own.map (·.2))).length = σ8.length := by rw [← hw8, wipe_length]
      have hk9 : ∀ (j : Nat) v, (wipe σ (own.map (·.2)))[j]? = some (some v) → (wipe σ8 vs1)[j]? = some (some v) := fun j v e => by
        obtain ⟨e1, e2⟩ := wipe_some (hw8 ▸ e)
        rw [wipe_out fun z => e2 (hv j z)]; exact e1
      refine thnF (pi1.run _ s8 σ8 H8 _ I8 q8) fun xv s10 hx => thnF hx fun itv s11 h11 => ?_
      obtain ⟨it1, fp1, tn1, J1, H11, rfl, I11, T1, st11, f11, W1, ⟨m1, w1⟩, turn1⟩ := h11
      have stat1 : ∀ {H' : Hp}, (∀ b ∈ fp1, H' b = none) → ∀ b ∈ fp1, FpOk (X.blk s3 H3 scope ce fp) ([] ++ pinsAt fp s7.heap) H' b := fun hn b hb => ⟨hn b hb, (f11 b hb).2⟩
      have loop1 : codeAny (model X.prog X.w) X.A (.compLoop (dc2 kx vx tg iter tg1 iter1 scope pos) 1 (.ref it1) (.ref D) ce)
          (fun r s' => match r with
            | .ok _ => ∃ m, m < n ∧ ∃ i H', Inv (X.blk s3 H3 scope ce fp) [] (wipe σ (own.map (·.2))) H' s' ∧ tn i s'.heap ∧ (∀ b ∈ fp, H' b = none) ∧ W i m H'
            | .error _ => False) s11 := by
        refine dc2_inner (fun k s' => ∃ j H', Inv (X.blk s3 H3 scope ce fp) ([] ++ pinsAt fp s7.heap) (wipe σ8 vs1) H' s' ∧ tn1 j s'.heap ∧ (∀ b ∈ fp1, H' b = none) ∧ W1 j k H') ?_ m1
          ⟨0, H11, I11.weak (wipe_length _ _) (fun j v e => (wipe_some e).1), st11, fun b hb => (f11 b hb).1, w1⟩
        rintro k s12 ⟨j, H12, I12, st12, n12, w12⟩
        rcases turn1 j k H12 w12 with ⟨stop1, nx1⟩ | ⟨go1, Nx1, hNx1, step1⟩
        · refine thnF (T1.done (X.blk s3 H3 scope ce fp) rfl rfl rfl hc j _ s12 (wipe σ8 vs1) H12 (fun _ _ => False) I12 (stat1 n12) st12 stop1) fun r s13 ⟨hr, I13⟩ => ?_
          subst hr
          exact fin I13 (hl8.trans (wipe_length σ8 vs1).symm) hk9 nx1
        · refine thnF (T1.item (X.blk s3 H3 scope ce fp) rfl rfl rfl hc j _ s12 (wipe σ8 vs1) H12 (fun _ _ => False) I12 (stat1 n12) st12 go1) fun r s13 ⟨u1, hr, h13⟩ => ?_
          subst hr
          refine thnF h13 fun _ s14 ⟨x1, H14, I14, r14, y14, st14, n14⟩ => ?_
          have I14' := I14.pinned (stat1 n14) (T1.obj _ _ st14)
          refine thnF (pg1.run _ s14 (wipe σ8 vs1) H14 x1 u1 _ I14' r14 (step1 x1 H14 y14)) fun _ s15 ⟨σ15, H15, I15, hw15, q15⟩ => ?_
          refine thnF (pk.run _ s15 σ15 H15 _ I15 q15) fun z s16 ⟨yk, H16, I16, r16, q16⟩ => ?_
          refine thnF (pe.run _ s16 σ15 H16 _ I16 q16) fun z2 s17 ⟨yv, H17, I17, r17, kvs, ks, b, ek, hb17, hD17, hz17, nx⟩ => ?_
          subst ek
          obtain rfl : z = Value.ref b := r16
          refine dset_tup (X := X.blk s3 H3 scope ce fp) hu I17 hD17 hb17 hz17 r17 fun s18 I18 => ?_
          obtain ⟨m', hm, w'⟩ := hNx1 _ nx
          have pin' : ∀ b ∈ fp1, ∀ o, s14.heap.get? b = some o → s18.heap.get? b = some o ∧ (upd H17 D (.dT (putK kvs ks yv))) b = none := fun b hb o e =>
            let z := I18.pin (b, o) (List.mem_append_right _ (List.mem_append_right _ (mem_pinsAt hb e)))
            ⟨z.1, z.2.1⟩
          refine ⟨m', hm, j + 1, _, I18.unpinned.weak (by rw [← hw15, wipe_length]) (fun j v e => (wipe_some (hw15 ▸ e)).1), T1.keep _ _ _ st14 fun b hb o e => (pin' b hb o e).1, fun b hb => ?_, w'⟩
          obtain ⟨o, e, _⟩ := T1.obj _ _ st14 b hb
          exact (pin' b hb o e).2
      exact dc2_start1 loop1 (T1.self X.A 0 _ _ _ st11 loop1)
  exact codeAny_compStart_dict loop (T.self X.A 0 _ _ _ st4 loop)
/-- as a value -/
theorem pe_dcT2 {kx vx tg iter tg1 iter1 : Expr} {scope : Scope} {own : List (Str × Nat)} {vs1 : List Nat} {pos : Pos} {wi wi1 : TI} {g g1 : TG} {tk tv : TE}
    (hu : X.A.units < cLine) (hc : X.calm = true) (hN : X.N.Nodup) (hi : PI X tg iter wi) (ok : BlkOk X.N X.env.scope scope own) (hv : ∀ i ∈ vs1, i ∈ own.map (·.2))
    (hg : ∀ s H C cl fp, PG (blkC X scope s H C cl fp) tg g)
    (hi1 : ∀ s H C cl fp, PI (blkC X scope s H C cl fp) tg1 iter1 wi1)
    (hg1 : ∀ s H C cl fp, PG (blkC X scope s H C cl fp) tg1 g1)
    (hk : ∀ s H C cl fp, PE (blkC X scope s H C cl fp) kx tk)
    (he : ∀ s H C cl fp, PE (blkC X scope s H C cl fp) vx tv)
    (hs : ∀ x, foldedSetIterable iter X.env x = pure x := by intro _; rfl) (hs1 : ∀ env x, foldedSetIterable iter1 env x = pure x := by intro _ _; rfl) :
    PE X (.DictComp kx vx [⟨tg, iter, [], 0⟩, ⟨tg1, iter1, [], 0⟩] scope pos) (tDcT2 wi g wi1 g1 tk tv (own.map (·.2)) vs1) := by
  refine ⟨fun pins s σ H Q I h => ?_⟩
  rw [arm_eval_DictComp]
  refine dcT2_core hu hc hN I hi ok hv hg hi1 hg1 hk he hs hs1 h fun D C s' m H' I' q hn f => ⟨m, hn, fun h'' sb => ?_⟩
  obtain ⟨f0, f1, _, f3, f4, f5⟩ := f
  exact ⟨.ref D, H', I'.turned (t' := s'.toks) (fun b o hb e => (sb.2 b hb).trans e) f0 f1 f3 f4 f5, rfl, q⟩
end

/-! ### min(xs, default=d) of whole numbers -/
def rMinD (K : PySem.W.Frag) : List V → List V → Hp → VK → Prop := fun xs zs H Q => ∃ (a : Addr) (ns : List Int) (d : V), xs = [.ref a] ∧ zs = [d] ∧ SqL K H a (ns.map V.int) ∧
  (ns = [] → Q d H) ∧ ∀ m, m ∈ ns → (∀ n ∈ ns, m ≤ n) → Q (.int m) H
theorem ints_read {h : Heap} : ∀ {ns : List Int} {us : List Value}, Vals (ns.map V.int) us → ReadsAll h us (ns.map .int) []
  | [], _, r => by cases r; exact .nil
  | n :: ns, _, r => by
    cases r with
    | cons q t => obtain ⟨tk, rfl⟩ := q; exact .cons (as := []) (.int _ _) (ints_read t)
theorem fold_min : ∀ (ns : List Int) (n : Int), (ns.foldl min n = n ∨ ns.foldl min n ∈ ns) ∧ ns.foldl min n ≤ n ∧ ∀ m ∈ ns, ns.foldl min n ≤ m
  | [], n => ⟨.inl rfl, Int.le_refl _, fun _ h => nomatch h⟩
  | a :: r, n => by
    obtain ⟨h1, h2, h3⟩ := fold_min r (min n a)
    rw [List.foldl_cons]
    refine ⟨?_, by omega, fun m hm => ?_⟩
    · rcases h1 with h1 | h1
      · rw [h1]
        by_cases c : n ≤ a
        · left; omega
        · right; rw [show min n a = a by omega]; exact List.mem_cons_self
      · exact .inr (List.mem_cons_of_mem _ h1)
    · rcases List.mem_cons.mp hm with rfl | hm
      · omega
      · exact h3 m hm
section
variable {X : Cx}
theorem cr_minD (hc : X.calm = true) (hu : X.A.units + 1 < cLine) : CallRK X (.builtin "min") [Str.ofString "default"] (rMinD X.K) := by
  intro pins s σ H xs zs us ws Q I rx rz h
  obtain ⟨a, ns, d, rfl, rfl, hs, q0, q1⟩ := h
  obtain ⟨its, rv, hl, _⟩ := I.list hs
  rw [Vals.ref1 rx]
  cases rz with
  | cons rd rn =>
    cases rn
    have al : PySem.W.AlikeAll (ns.map PyData.int) := ⟨fun x hx y hy => by
        obtain ⟨i, _, rfl⟩ := List.mem_map.mp hx
        obtain ⟨j, _, rfl⟩ := List.mem_map.mp hy
        rfl, fun x hx e => by
        obtain ⟨i, _, rfl⟩ := List.mem_map.mp hx
        cases e⟩
    refine PySem.W.min_list_default (xs := ns.map PyData.int) (as := []) (I.ok.hd hc) hl.isList (by simpa using ints_read rv) al
      (by rw [PyProof.Rows.depthAll_ints]; exact hu) (fun e h' tk k => ?_) fun y ys i v h' tk bs e hv hr k => ?_
    · have e' : ns = [] := by cases ns with
        | nil => rfl
        | cons _ _ => cases e
      exact ⟨d, H, I.kept k, rd, q0 e'⟩
    · cases ns with
      | nil => cases e
      | cons n r =>
        rw [List.map_cons] at e
        injection e with e1 e2
        subst e1 e2
        rw [PySem.W.minD_ints] at hr
        cases hr with
        | int m t =>
          obtain ⟨f1, f2, f3⟩ := fold_min r n
          refine ⟨.int _, H, I.kept k, ⟨_, rfl⟩, q1 _ ?_ fun m hm => ?_⟩
          · rcases f1 with f1 | f1
            · rw [f1]; exact List.mem_cons_self
            · exact List.mem_cons_of_mem _ f1
          · rcases List.mem_cons.mp hm with rfl | hm
            · exact f2
            · exact f3 m hm
end
end L2.FL
/-! Data in the abstract heap: the heap without an address, places, rows, maps as pairs. -/
namespace L2.FK
open PySem PySem.Spec PyProof.Rows L2.FL
abbrev Pl := Int × Int
/-- the heap without what stands at D -/
def del (D : Addr) (H : Hp) : Hp := fun b => if b = D then none else H b
theorem del_at {D : Addr} {H : Hp} : del D H D = none := if_pos rfl
theorem del_ne {D b : Addr} {H : Hp} (h : b ≠ D) : del D H b = H b := if_neg h
theorem of_del {D b : Addr} {H : Hp} {o : HO} (h : del D H b = some o) : H b = some o ∧ b ≠ D := by
  unfold del at h
  split at h
  · cases h
  · exact ⟨h, by assumption⟩
theorem del_upd {D : Addr} {H : Hp} {o : HO} : del D (upd H D o) = del D H := by
  funext b; unfold del upd; split <;> rfl
theorem del_upd_ne {D p : Addr} {H : Hp} {o : HO} (h : p ≠ D) : del D (upd H p o) = upd (del D H) p o := by
  funext b
  by_cases e : b = D
  · subst e; rw [del_at, upd_ne (Ne.symm h), del_at]
  · rw [del_ne e]
    by_cases e' : b = p
    · subst e'; rw [upd_same, upd_same]
    · rw [upd_ne e', upd_ne e', del_ne e]
theorem del_same {D : Addr} {H : Hp} : Same (del D H) H := fun _ _ h => (of_del h).1
theorem same_del {D : Addr} {H H' : Hp} (s : Same H H') (h : H D = none) : Same H (del D H') := fun b o e => by
  rw [del_ne (ne_of_none e h)]; exact s b o e
theorem same_dels {D : Addr} {H H' : Hp} (s : Same H H') : Same (del D H) (del D H') := fun b o e => by
  obtain ⟨e1, e2⟩ := of_del e
  rw [del_ne e2]; exact s b o e1
theorem same_new {H : Hp} {p : Addr} (h : H p = none) (o : HO) : Same H (upd H p o) := fun b u q => by rw [upd_ne (ne_of_none q h)]; exact q
theorem same_put {H H' : Hp} {p : Addr} (s : Same H H') (h : H p = none) (o : HO) : Same H (upd H' p o) := fun b u q => by rw [upd_ne (ne_of_none q h)]; exact s b u q
theorem none_del {D b : Addr} {H : Hp} (h : H b = none) : del D H b = none := by
  unfold del; split
  · rfl
  · exact h
theorem paired_mono {α β : Type} {F G : α → β → Prop} {l : List α} {m : List β} (h : Paired F l m) (f : ∀ a b, F a b → G a b) : Paired G l m := Paired.mapP h f
theorem paired_len {α β : Type} {F : α → β → Prop} {l : List α} {m : List β} (h : Paired F l m) : l.length = m.length := Paired.length h
theorem paired_get {α β : Type} {F : α → β → Prop} : ∀ {l : List α} {m : List β}, Paired F l m → ∀ (i : Nat) {x : α}, l[i]? = some x → ∃ y, m[i]? = some y ∧ F x y
  | _, _, .nil, i, x, e => by simp at e
  | _, _, .cons r t, 0, x, e => by simp at e; subst e; exact ⟨_, rfl, r⟩
  | _, _, .cons r t, i + 1, x, e => by simpa using paired_get t i (by simpa using e)
theorem paired_get' {α β : Type} {F : α → β → Prop} : ∀ {l : List α} {m : List β}, Paired F l m → ∀ (i : Nat) {y : β}, m[i]? = some y → ∃ x, l[i]? = some x ∧ F x y
  | _, _, .nil, i, x, e => by simp at e
  | _, _, .cons r t, 0, x, e => by simp at e; subst e; exact ⟨_, rfl, r⟩
  | _, _, .cons r t, i + 1, x, e => by simpa using paired_get' t i (by simpa using e)
theorem paired_app {α β : Type} {F : α → β → Prop} : ∀ {l l' : List α} {m m' : List β}, Paired F l m → Paired F l' m' → Paired F (l ++ l') (m ++ m')
  | _, _, _, _, .nil, s => s
  | _, _, _, _, .cons r t, s => .cons r (paired_app t s)
theorem paired_snoc {α β : Type} {F : α → β → Prop} {l : List α} {m : List β} {x : α} {y : β} (h : Paired F l m) (r : F x y) : Paired F (l ++ [x]) (m ++ [y]) := paired_app h (.cons r .nil)
theorem paired_take {α β : Type} {F : α → β → Prop} : ∀ {l : List α} {m : List β} (n : Nat), Paired F l m → Paired F (l.take n) (m.take n)
  | _, _, 0, _ => .nil
  | _, _, _ + 1, .nil => .nil
  | _, _, n + 1, .cons r t => .cons r (paired_take n t)
theorem paired_set {α β : Type} {F : α → β → Prop} : ∀ {l : List α} {m : List β} (n : Nat) {x : α} {y : β}, Paired F l m → F x y → Paired F (l.set n x) (m.set n y)
  | _, _, _, _, _, .nil, _ => .nil
  | _, _, 0, _, _, .cons _ t, r => .cons r t
  | _, _, n + 1, _, _, .cons q t, r => .cons q (paired_set n t r)
theorem paired_erase {α β : Type} {F : α → β → Prop} : ∀ {l : List α} {m : List β} (n : Nat), Paired F l m → Paired F (l.eraseIdx n) (m.eraseIdx n)
  | _, _, _, .nil => .nil
  | _, _, 0, .cons _ t => t
  | _, _, n + 1, .cons q t => .cons q (paired_erase n t)
theorem take_snoc {α : Type} {l : List α} {i : Nat} {x : α} (h : l[i]? = some x) : l.take (i + 1) = l.take i ++ [x] := by
  rw [List.take_add_one, h]; rfl
theorem snoc_le {n : Nat} (h : n ≤ 100000) : n < sizeLine := Nat.lt_of_le_of_lt h (by decide)
theorem le_line {n : Nat} (h : n ≤ 100000) : n ≤ sizeLine := Nat.le_of_lt (snoc_le h)
/-! ### places, rows, lists of rows -/
/-- a place at v -/
def PlAt (H : Hp) (v : V) (p : Pl) : Prop := ∃ t, v = .ref t ∧ H t = some (.tup [.int p.1, .int p.2])
/-- a list of ints at v -/
def IntsAt (H : Hp) (v : V) (ns : List Int) : Prop := ∃ a, v = .ref a ∧ H a = some (.lst (ns.map V.int))
def RowAt (H : Hp) (v : V) (row : List Pl) : Prop := ∃ a vs, v = .ref a ∧ H a = some (.lst vs) ∧ Paired (PlAt H) vs row
def RowsAt (H : Hp) (v : V) (rows : List (List Pl)) : Prop := ∃ a vs, v = .ref a ∧ H a = some (.lst vs) ∧ Paired (RowAt H) vs rows
/-- a map as the pair of its drifts and goals -/
def DAt (H : Hp) (v : V) (ds : List Int) (rows : List (List Pl)) : Prop := ∃ t v1 v2, v = .ref t ∧ H t = some (.tup [v1, v2]) ∧ IntsAt H v1 ds ∧ RowsAt H v2 rows
section
variable {H H' : Hp} {v : V}
theorem PlAt.mono {p : Pl} (s : Same H H') (h : PlAt H v p) : PlAt H' v p := let ⟨t, e, q⟩ := h; ⟨t, e, s _ _ q⟩
theorem IntsAt.mono {ns : List Int} (s : Same H H') (h : IntsAt H v ns) : IntsAt H' v ns := let ⟨t, e, q⟩ := h; ⟨t, e, s _ _ q⟩
theorem RowAt.mono {row : List Pl} (s : Same H H') (h : RowAt H v row) : RowAt H' v row := let ⟨a, vs, e, q, r⟩ := h; ⟨a, vs, e, s _ _ q, paired_mono r fun _ _ z => z.mono s⟩
theorem RowsAt.mono {rows : List (List Pl)} (s : Same H H') (h : RowsAt H v rows) : RowsAt H' v rows := let ⟨a, vs, e, q, r⟩ := h; ⟨a, vs, e, s _ _ q, paired_mono r fun _ _ z => z.mono s⟩
theorem DAt.mono {ds : List Int} {rows : List (List Pl)} (s : Same H H') (h : DAt H v ds rows) : DAt H' v ds rows := let ⟨t, v1, v2, e, q, r1, r2⟩ := h; ⟨t, v1, v2, e, s _ _ q, r1.mono s, r2.mono s⟩
theorem pls_mono {vs : List V} {row : List Pl} (s : Same H H') (h : Paired (PlAt H) vs row) : Paired (PlAt H') vs row := paired_mono h fun _ _ z => z.mono s
theorem rows_mono {vs : List V} {rows : List (List Pl)} (s : Same H H') (h : Paired (RowAt H) vs rows) : Paired (RowAt H') vs rows := paired_mono h fun _ _ z => z.mono s
end
/-! ### what is not at D -/
section
variable {H : Hp} {D : Addr} {o : HO} {v : V}
theorem del_of {b : Addr} {o' : HO} (hD : H D = some o) (h : H b = some o') (n : o' ≠ o) : del D H b = some o' := by rw [del_ne (ne_of h hD n)]; exact h
theorem PlAt.del {p : Pl} (hD : H D = some o) (nt : ∀ xs, HO.tup xs ≠ o) (h : PlAt H v p) : PlAt (del D H) v p := let ⟨t, e, q⟩ := h; ⟨t, e, del_of hD q (nt _)⟩
theorem pls_del {vs : List V} {row : List Pl} (hD : H D = some o) (nt : ∀ xs, HO.tup xs ≠ o) (h : Paired (PlAt H) vs row) : Paired (PlAt (FK.del D H)) vs row := paired_mono h fun _ _ z => z.del hD nt
theorem RowAt.del {row : List Pl} (hD : H D = some o) (nt : ∀ xs, HO.tup xs ≠ o) (nl : ∀ xs, HO.lst xs ≠ o) (h : RowAt H v row) : RowAt (FK.del D H) v row := let ⟨a, vs, e, q, r⟩ := h; ⟨a, vs, e, del_of hD q (nl _), pls_del hD nt r⟩
theorem RowsAt.del {rows : List (List Pl)} (hD : H D = some o) (nt : ∀ xs, HO.tup xs ≠ o) (nl : ∀ xs, HO.lst xs ≠ o) (h : RowsAt H v rows) : RowsAt (FK.del D H) v rows := let ⟨a, vs, e, q, r⟩ := h; ⟨a, vs, e, del_of hD q (nl _), paired_mono r fun _ _ z => z.del hD nt nl⟩
/-- a row whose list is another one -/
theorem RowAt.delN {row : List Pl} {b : Addr} (hD : H D = some o) (nt : ∀ xs, HO.tup xs ≠ o) (hb : b ≠ D) (h : RowAt H (.ref b) row) : RowAt (FK.del D H) (.ref b) row := by
  obtain ⟨a, vs, e, q, r⟩ := h
  cases e
  exact ⟨b, vs, rfl, by rw [del_ne hb]; exact q, pls_del hD nt r⟩
theorem del_del {D D' : Addr} {H : Hp} : del D (del D' H) = del D' (del D H) := by
  funext b; unfold FK.del; split <;> split <;> rfl
end
/-! ### the built-ins -/
theorem bt_len : bootBuiltins "len" = some (.builtin "len") := by decide +kernel
theorem bt_sum : bootBuiltins "sum" = some (.builtin "sum") := by decide +kernel
theorem bt_max : bootBuiltins "max" = some (.builtin "max") := by decide +kernel
theorem bt_min : bootBuiltins "min" = some (.builtin "min") := by decide +kernel
theorem bt_isinstance : bootBuiltins "isinstance" = some (.builtin "isinstance") := by decide +kernel
theorem bt_all : bootBuiltins "all" = some (.builtin "all") := by decide +kernel
theorem bt_any : bootBuiltins "any" = some (.builtin "any") := by decide +kernel
theorem bt_sorted : bootBuiltins "sorted" = some (.builtin "sorted") := by decide +kernel
theorem bt_repr : bootBuiltins "repr" = some (.builtin "repr") := by decide +kernel
theorem bt_list : bootBuiltins "list" = some (.type "list") := by decide +kernel
theorem bt_tuple : bootBuiltins "tuple" = some (.type "tuple") := by decide +kernel
theorem bt_range : bootBuiltins "range" = some (.type "range") := by decide +kernel
theorem bt_enumerate : bootBuiltins "enumerate" = some (.type "enumerate") := by decide +kernel
theorem bt_zip : bootBuiltins "zip" = some (.type "zip") := by decide +kernel
theorem bt_int : bootBuiltins "int" = some (.type "int") := by decide +kernel
theorem bt_bool : bootBuiltins "bool" = some (.type "bool") := by decide +kernel
theorem bt_str : bootBuiltins "str" = some (.type "str") := by decide +kernel
/-! ### rules with the written part named (for use inside comprehensions) -/
section
variable {X : Cx}
theorem c_list (K : PySem.W.Frag) (h : X.K = K := by rfl) : CallR X (.type "list") (fun xs H Q => ∃ p ys, xs = [V.ref p] ∧ (SqL K H p ys ∨ SqT K H p ys) ∧ ∀ l, H l = none → Q (V.ref l) (upd H l (.lst ys))) := by
  subst h; exact call_list_of
theorem c_len (K : PySem.W.Frag) (h : X.K = K := by rfl) : CallR X (.builtin "len") (fun xs H Q => ∃ p ys, xs = [.ref p] ∧ (SqL K H p ys ∨ SqT K H p ys) ∧ Q (.int ys.length) H) := by
  subst h; exact call_len_seq
theorem x_list (K : PySem.W.Frag) (h : X.K = K := by rfl) : IxR X (rIxL K) := by subst h; exact ix_list
theorem x_tup (K : PySem.W.Frag) (h : X.K = K := by rfl) : IxR X (rIxT K) := by subst h; exact ix_tup
theorem g_tup (K : PySem.W.Frag) {pos : Pos} {es : List Expr} {k : Nat} {t : TGs} {n : Nat} (h : X.K = K := by rfl) (hc : X.calm = true := by rfl) (hp : PGs X es t)
    (hn : (assignEach es X.env).length = n := by rfl) (hst : (assignEach es X.env).findIdx? (·.1) = none := by rfl) : PG X (.Tuple es k pos) (gTup K n t) := by subst h; exact pg_tup hc hp hn hst
theorem n_enum (K : PySem.W.Frag) {e : Expr} {ta : TA} {p pos tpos : Pos} {elts : List Expr} {kk : Nat} (hg : Gl X "enumerate") (hm : X.mg "enumerate" = none) (ha : PA X [e] ta) (hs : starEach [e] X.env = [(false, eval e X.env)] := by rfl) (h : X.K = K := by rfl) :
    PI X (.Tuple elts kk tpos) (.Call (.Name "enumerate" p) [e] [] pos) (iEnum K ta) := by subst h; exact pi_enum hg hm ha hs
theorem n_list (K : PySem.W.Frag) {tg l : Expr} {tl : TE} (hl : PE X l tl) (h : X.K = K := by rfl) : PI X tg l (iList K tl) := by subst h; exact pi_list hl
theorem n_tup (K : PySem.W.Frag) {tg l : Expr} {tl : TE} (hl : PE X l tl) (h : X.K = K := by rfl) : PI X tg l (iTup K tl) := by subst h; exact pi_tup hl
end
theorem e_fld (K : PySem.W.Frag) {X : Cx} {e : Expr} {f : Str} {pos : Pos} {ta : TE} (he : PE X e ta) (hb : attributeBase e f X.env (eval e X.env) = eval e X.env := by rfl) (h : X.K = K := by rfl) : PE X (.Attribute e f pos) (tFld K ta f) := by
  subst h; exact pe_fld he hb
/-! ### places compared -/
theorem dp_pl {K : PySem.W.Frag} {H : Hp} {v : V} {p : Pl} (h : PlAt H v p) : Dp K H v (.tuple [.int p.1, .int p.2]) := by
  obtain ⟨t, rfl, ht⟩ := h
  exact .tup (.inl (.inl ht)) (.cons (.int _) (.cons (.int _) .nil))
theorem eqv_pl (p q : Pl) : PyData.eqv (.tuple [.int p.1, .int p.2]) (.tuple [.int q.1, .int q.2]) = decide (p = q) := by
  obtain ⟨a, b⟩ := p
  obtain ⟨c, d⟩ := q
  simp only [PyData.eqv, PyData.eqvAll, Bool.and_true, Prod.mk.injEq]
  by_cases h1 : a = c <;> by_cases h2 : b = d <;> simp [h1, h2]
theorem shaped_pl (p : Pl) : SeqAt.shaped (.tuple [.int p.1, .int p.2]) = true := rfl
/-! ### the goals without those at the end that the drift gives -/
def trimLen (l d : Int) (row : List Pl) : Nat → Nat
  | 0 => 0
  | n + 1 => if row[n]? = some (l, (n : Int) + d) then trimLen l d row n else n + 1
def trimRow (l d : Int) (row : List Pl) : List Pl := row.take (trimLen l d row row.length)
theorem trimLen_le (l d : Int) (row : List Pl) : ∀ n, trimLen l d row n ≤ n
  | 0 => Nat.le_refl _
  | n + 1 => by
    unfold trimLen
    split
    · exact Nat.le_succ_of_le (trimLen_le l d row n)
    · exact Nat.le_refl _
theorem cutV_to (xs : List V) (n : Nat) (h : n ≤ xs.length) : cutV xs none (some (n : Int)) = xs.take n := by
  unfold cutV
  rw [HT.sIx_nat, HT.sIx_none, List.drop_zero, Nat.sub_zero, Nat.min_eq_left h]
end L2.FK
/-! Valid maps, and counts of goals by lane. -/
namespace L2.FK
open PySem PySem.Spec PyProof.Rows L2.FL
/-- drifts and goals (as long as the bounds or longer) that are a bijection -/
structure Okm (ds : List Int) (rows : List (List Pl)) : Prop where
  len : rows.length = ds.length
  lo : 1 ≤ ds.length
  hi : ds.length ≤ 6
  wid : rows.flatten.length ≤ 2000
  st : ∀ (i : Nat) row d, rows[i]? = some row → ds[i]? = some d → 0 ≤ (row.length : Int) + d
  mem : ∀ p : Pl, p ∈ rows.flatten ↔ ∃ (i : Nat) (row : List Pl) (d : Int), p.1 = i ∧ rows[i]? = some row ∧ ds[i]? = some d ∧ 0 ≤ p.2 ∧ p.2 < (row.length : Int) + d
  nd : rows.flatten.Nodup
/-- the dict of lane l behind the goals G -/
structure Cnt (kvs : List (Key × V)) (l : Int) (G : List Pl) : Prop where
  len : kvs.length ≤ G.length
  val : ∀ a : Int, valV kvs (Sum.inl a) = if G.count (l, a) = 0 then none else some (.int ((G.count (l, a) : Nat) : Int))
  key : ∀ kv ∈ kvs, ∃ a : Int, kv.1 = Sum.inl a ∧ (l, a) ∈ G
theorem Cnt.nil (l : Int) : Cnt [] l [] := ⟨Nat.le_refl _, fun a => by simp [valV_nil], fun kv h => nomatch h⟩
theorem Cnt.get {kvs : List (Key × V)} {l : Int} {G : List Pl} (c : Cnt kvs l G) (a : Int) : (valV kvs (Sum.inl a)).getD (.int 0) = .int ((G.count (l, a) : Nat) : Int) := by
  rw [c.val a]
  split
  · rename_i h; rw [h]; rfl
  · rfl
theorem mem_putK {kvs : List (Key × V)} {k : Key} {v : V} {p : Key × V} (h : p ∈ putK kvs k v) : p.1 = k ∨ ∃ q ∈ kvs, q.1 = p.1 := by
  unfold putK at h
  split at h
  · obtain ⟨q, hq, e⟩ := List.mem_map.mp h
    by_cases c : q.1 = k
    · rw [if_pos c] at e; left; rw [← e]; exact c
    · rw [if_neg c] at e; right; exact ⟨q, hq, by rw [e]⟩
  · rcases List.mem_append.mp h with h | h
    · exact .inr ⟨p, h, rfl⟩
    · left; rw [List.mem_singleton.mp h]
theorem Cnt.other {kvs : List (Key × V)} {l l' a' : Int} {G : List Pl} (c : Cnt kvs l G) (h : l ≠ l') : Cnt kvs l (G ++ [(l', a')]) := by
  have e : ∀ a, (G ++ [(l', a')]).count (l, a) = G.count (l, a) := fun a => by
    rw [List.count_append, List.count_singleton]
    have : ((l', a') == (l, a)) = false := by
      rw [beq_eq_false_iff_ne]; intro z; injection z with z1; exact h z1.symm
    rw [this]; rfl
  refine ⟨by rw [List.length_append]; have := c.len; omega, fun a => by rw [e a]; exact c.val a, fun kv hk => ?_⟩
  obtain ⟨a, e1, e2⟩ := c.key kv hk
  exact ⟨a, e1, List.mem_append_left _ e2⟩
theorem Cnt.put {kvs : List (Key × V)} {l a' : Int} {G : List Pl} (c : Cnt kvs l G) : Cnt (putK kvs (Sum.inl a') (.int ((G.count (l, a') : Nat) + 1))) l (G ++ [(l, a')]) := by
  refine ⟨?_, fun a => ?_, fun kv hk => ?_⟩
  · have := length_putK kvs (Sum.inl a' : Key) (V.int ((G.count (l, a') : Nat) + 1))
    have := c.len
    rw [List.length_append, List.length_singleton]; omega
  · rw [valV_put, List.count_append, List.count_singleton]
    by_cases e : a = a'
    · subst e
      rw [if_pos rfl, beq_self_eq_true, if_pos rfl, if_neg (Nat.succ_ne_zero _)]
      rfl
    · rw [if_neg (fun z => e (Sum.inl.inj z))]
      have : ((l, a') == (l, a)) = false := by
        rw [beq_eq_false_iff_ne]; intro z; injection z with _ z1; exact e z1.symm
      rw [this, c.val a]; rfl
  · rcases mem_putK hk with e | ⟨q, hq, e⟩
    · exact ⟨a', e, List.mem_append_right _ (List.mem_singleton.mpr rfl)⟩
    · obtain ⟨a, e1, e2⟩ := c.key q hq
      exact ⟨a, e.symm.trans e1, List.mem_append_left _ e2⟩
theorem flatten_take {rows : List (List Pl)} {i : Nat} {row : List Pl} (h : rows[i]? = some row) : (rows.take (i + 1)).flatten = (rows.take i).flatten ++ row := by
  rw [take_snoc h, List.flatten_append]; simp
theorem Okm.pl {ds : List Int} {rows : List (List Pl)} (o : Okm ds rows) {p : Pl} (h : p ∈ rows.flatten) : 0 ≤ p.1 ∧ p.1 < (ds.length : Nat) ∧ 0 ≤ p.2 := by
  obtain ⟨i, row, d, e, h1, h2, h3, _⟩ := (o.mem p).mp h
  obtain ⟨h4, _⟩ := List.getElem?_eq_some_iff.mp h2
  omega
theorem Okm.in_row {ds : List Int} {rows : List (List Pl)} {i j : Nat} {row : List Pl} {p : Pl} (h : rows[i]? = some row) (hp : row[j]? = some p) : p ∈ rows.flatten :=
  List.mem_flatten.mpr ⟨row, List.mem_of_getElem? h, List.mem_of_getElem? hp⟩
theorem len_take_flatten (rows : List (List Pl)) (i : Nat) : (rows.take i).flatten.length ≤ rows.flatten.length := by
  have : (rows.take i).flatten.length + (rows.drop i).flatten.length = rows.flatten.length := by
    rw [← List.length_append, ← List.flatten_append, List.take_append_drop]
  omega
theorem count_one : ∀ {l : List Pl} {p : Pl}, l.Nodup → p ∈ l → l.count p = 1
  | a :: r, p, h, hm => by
    obtain ⟨h1, h2⟩ := List.nodup_cons.mp h
    rw [List.count_cons]
    by_cases e : a = p
    · subst e
      rw [List.count_eq_zero.mpr h1, beq_self_eq_true]; rfl
    · rw [count_one h2 ((List.mem_cons.mp hm).resolve_left fun z => e z.symm), beq_eq_false_iff_ne.mpr e]; rfl
end L2.FK
/-! Dicts from places to places, and walks for the dict comprehensions. -/
namespace L2.FL
open PySem PySem.Spec PyProof.Rows
section
variable {J : It} {n : Nat} {G : Hp → Prop} {Y : Nat → Hp → V → Hp → Prop}
/-- one for: the turns by Pv -/
theorem dc_it (w : Walk J n G Y) {g : TG} {tk tv : TE} {vs : List Nat} {σ : St} {H1 : Hp} {D : Addr} {Qd : Hp → Prop} (Pv : Nat → Hp → Prop) (h0 : Pv 0 (upd H1 D (.dT []))) (hG : ∀ i H, i ≤ n → Pv i H → G H)
    (hs : ∀ i x H H', i < n → Pv i H → Y i H x H' → g x (wipe σ vs) H' fun σ2 H2 => wipe σ2 vs = wipe σ vs ∧ tk σ2 H2 fun y H4 => tv σ2 H4 fun z H5 =>
      ∃ kvs k b, y = .ref b ∧ H5 b = some (.tup (k.map kV)) ∧ H5 D = some (.dT kvs) ∧ kvs.length < sizeLine ∧ Pv (i + 1) (upd H5 D (.dT (putK kvs k z)))) (hd : ∀ H, Pv n H → Qd H) :
    ∃ W : Nat → Nat → Hp → Prop, (∃ m, W 0 m (upd H1 D (.dT []))) ∧ ∀ i m H, W i m H →
      (J.stop i H ∧ Qd H) ∨ (J.go i H ∧ ∃ Nx : Hp → Prop, (∀ H', Nx H' → ∃ m', m' < m ∧ W (i + 1) m' H') ∧ ∀ x H', J.yld i H x H' → g x (wipe σ vs) H' fun σ2 H2 => wipe σ2 vs = wipe σ vs ∧ tk σ2 H2 fun y H4 => tv σ2 H4 fun z H5 =>
        ∃ kvs k b, y = .ref b ∧ H5 b = some (.tup (k.map kV)) ∧ H5 D = some (.dT kvs) ∧ kvs.length < sizeLine ∧ Nx (upd H5 D (.dT (putK kvs k z)))) := by
  refine ⟨fun i m H => m = n - i ∧ i ≤ n ∧ Pv i H, ⟨n, rfl, Nat.zero_le _, h0⟩, ?_⟩
  rintro i m H ⟨rfl, hi, p⟩
  by_cases hlt : i < n
  · exact .inr ⟨w.goes i H hlt (hG i H hi p), Pv (i + 1), fun H' p' => ⟨n - (i + 1), by omega, rfl, hlt, p'⟩, fun x H' y => hs i x H H' hlt p (w.yields i H x H' hlt (hG i H hi p) y)⟩
  · obtain rfl : i = n := by omega
    exact .inl ⟨w.stops H (hG _ H hi p), hd H p⟩
/-- the outer of two fors -/
theorem dc2o_it (w : Walk J n G Y) {g : TG} {wi1 : TI} {vs : List Nat} {σ : St} {H1 : Hp} {D : Addr} {Qd : Hp → Prop} {B : (Hp → Prop) → St → It → Hp → Prop} (Pv : Nat → Hp → Prop) (h0 : Pv 0 (upd H1 D (.dT []))) (hG : ∀ i H, i ≤ n → Pv i H → G H)
    (hs : ∀ i x H H', i < n → Pv i H → Y i H x H' → g x (wipe σ vs) H' fun σ2 H2 => wipe σ2 vs = wipe σ vs ∧ wi1 σ2 H2 fun J1 H4 => B (Pv (i + 1)) σ2 J1 H4) (hd : ∀ H, Pv n H → Qd H) :
    ∃ W : Nat → Nat → Hp → Prop, (∃ m, W 0 m (upd H1 D (.dT []))) ∧ ∀ i m H, W i m H →
      (J.stop i H ∧ Qd H) ∨ (J.go i H ∧ ∃ Nx : Hp → Prop, (∀ H', Nx H' → ∃ m', m' < m ∧ W (i + 1) m' H') ∧ ∀ x H', J.yld i H x H' → g x (wipe σ vs) H' fun σ2 H2 => wipe σ2 vs = wipe σ vs ∧ wi1 σ2 H2 fun J1 H4 => B Nx σ2 J1 H4) := by
  refine ⟨fun i m H => m = n - i ∧ i ≤ n ∧ Pv i H, ⟨n, rfl, Nat.zero_le _, h0⟩, ?_⟩
  rintro i m H ⟨rfl, hi, p⟩
  by_cases hlt : i < n
  · exact .inr ⟨w.goes i H hlt (hG i H hi p), Pv (i + 1), fun H' p' => ⟨n - (i + 1), by omega, rfl, hlt, p'⟩, fun x H' y => hs i x H H' hlt p (w.yields i H x H' hlt (hG i H hi p) y)⟩
  · obtain rfl : i = n := by omega
    exact .inl ⟨w.stops H (hG _ H hi p), hd H p⟩
/-- the inner of two fors -/
theorem dc2i_it (w : Walk J n G Y) {g : TG} {tk tv : TE} {vs : List Nat} {σ : St} {H1 : Hp} {D : Addr} {Qd : Hp → Prop} (Pv : Nat → Hp → Prop) (h0 : Pv 0 H1) (hG : ∀ i H, i ≤ n → Pv i H → G H)
    (hs : ∀ i x H H', i < n → Pv i H → Y i H x H' → g x (wipe σ vs) H' fun σ2 H2 => wipe σ2 vs = wipe σ vs ∧ tk σ2 H2 fun y H4 => tv σ2 H4 fun z H5 =>
      ∃ kvs k b, y = .ref b ∧ H5 b = some (.tup (k.map kV)) ∧ H5 D = some (.dT kvs) ∧ kvs.length < sizeLine ∧ Pv (i + 1) (upd H5 D (.dT (putK kvs k z)))) (hd : ∀ H, Pv n H → Qd H) :
    ∃ W : Nat → Nat → Hp → Prop, (∃ m, W 0 m H1) ∧ ∀ i m H, W i m H →
      (J.stop i H ∧ Qd H) ∨ (J.go i H ∧ ∃ Nx : Hp → Prop, (∀ H', Nx H' → ∃ m', m' < m ∧ W (i + 1) m' H') ∧ ∀ x H', J.yld i H x H' → g x (wipe σ vs) H' fun σ2 H2 => wipe σ2 vs = wipe σ vs ∧ tk σ2 H2 fun y H4 => tv σ2 H4 fun z H5 =>
        ∃ kvs k b, y = .ref b ∧ H5 b = some (.tup (k.map kV)) ∧ H5 D = some (.dT kvs) ∧ kvs.length < sizeLine ∧ Nx (upd H5 D (.dT (putK kvs k z)))) := by
  refine ⟨fun i m H => m = n - i ∧ i ≤ n ∧ Pv i H, ⟨n, rfl, Nat.zero_le _, h0⟩, ?_⟩
  rintro i m H ⟨rfl, hi, p⟩
  by_cases hlt : i < n
  · exact .inr ⟨w.goes i H hlt (hG i H hi p), Pv (i + 1), fun H' p' => ⟨n - (i + 1), by omega, rfl, hlt, p'⟩, fun x H' y => hs i x H H' hlt p (w.yields i H x H' hlt (hG i H hi p) y)⟩
  · obtain rfl : i = n := by omega
    exact .inl ⟨w.stops H (hG _ H hi p), hd H p⟩
end
end L2.FL
namespace L2.FK
open PySem PySem.Spec PyProof.Rows L2.FL
/-! ### a dict from places to places -/
def key (p : Pl) : List Key := [Sum.inl p.1, Sum.inl p.2]
theorem key_map (p : Pl) : (key p).map kV = [.int p.1, .int p.2] := rfl
theorem key_inj {p q : Pl} (h : key p = key q) : p = q := by
  obtain ⟨a, b⟩ := p
  obtain ⟨c, d⟩ := q
  injection h with h1 h2
  injection h2 with h2 _
  have e1 : a = c := Sum.inl.inj h1
  have e2 : b = d := Sum.inl.inj h2
  rw [e1, e2]
structure Rep (H : Hp) (kvs : List (List Key × V)) (S : Pl → Pl → Prop) : Prop where
  has : ∀ p q, S p q → ∃ v, valV kvs (key p) = some v ∧ PlAt H v q
  only : ∀ kv ∈ kvs, ∃ p q, kv.1 = key p ∧ S p q ∧ PlAt H kv.2 q
theorem Rep.mono {H H' : Hp} {kvs : List (List Key × V)} {S : Pl → Pl → Prop} (r : Rep H kvs S) (s : Same H H') : Rep H' kvs S :=
  ⟨fun p q h => let ⟨v, e, z⟩ := r.has p q h; ⟨v, e, z.mono s⟩, fun kv h => let ⟨p, q, e, z, y⟩ := r.only kv h; ⟨p, q, e, z, y.mono s⟩⟩
theorem Rep.iff {H : Hp} {kvs : List (List Key × V)} {S S' : Pl → Pl → Prop} (r : Rep H kvs S) (h : ∀ p q, S p q ↔ S' p q) : Rep H kvs S' :=
  ⟨fun p q z => r.has p q ((h p q).mpr z), fun kv z => let ⟨p, q, e, y, x⟩ := r.only kv z; ⟨p, q, e, (h p q).mp y, x⟩⟩
theorem Rep.nil {H : Hp} : Rep H [] (fun _ _ => False) := ⟨fun _ _ h => h.elim, fun _ h => by cases h⟩
theorem mem_putT {kvs : List (List Key × V)} {k : List Key} {v : V} {p : List Key × V} (h : p ∈ putK kvs k v) : (p.1 = k ∧ p.2 = v) ∨ (p ∈ kvs ∧ p.1 ≠ k) := by
  unfold putK at h
  split at h
  · obtain ⟨q, hq, e⟩ := List.mem_map.mp h
    by_cases c : q.1 = k
    · rw [if_pos c] at e; left; rw [← e]; exact ⟨c, rfl⟩
    · rw [if_neg c] at e; right; rw [← e]; exact ⟨hq, c⟩
  · rename_i hn
    rcases List.mem_append.mp h with h | h
    · refine .inr ⟨h, fun e => hn ?_⟩
      exact List.any_eq_true.mpr ⟨p, h, decide_eq_true e⟩
    · left; rw [List.mem_singleton.mp h]; exact ⟨rfl, rfl⟩
theorem Rep.put {H : Hp} {kvs : List (List Key × V)} {S : Pl → Pl → Prop} {p q : Pl} {v : V} (r : Rep H kvs S) (hv : PlAt H v q) (hf : ∀ q', S p q' → q' = q) : Rep H (putK kvs (key p) v) (fun p' q' => S p' q' ∨ (p' = p ∧ q' = q)) := by
  refine ⟨fun p' q' h => ?_, fun kv h => ?_⟩
  · rw [valV_put]
    by_cases e : p' = p
    · subst e
      rw [if_pos rfl]
      refine ⟨v, rfl, ?_⟩
      rcases h with h | h
      · rw [hf q' h]; exact hv
      · rw [h.2]; exact hv
    · rw [if_neg fun z => e (key_inj z)]
      rcases h with h | h
      · exact r.has p' q' h
      · exact absurd h.1 e
  · rcases mem_putT h with ⟨e1, e2⟩ | ⟨e1, e2⟩
    · exact ⟨p, q, e1, .inr ⟨rfl, rfl⟩, by rw [e2]; exact hv⟩
    · obtain ⟨p', q', z1, z2, z3⟩ := r.only kv e1
      exact ⟨p', q', z1, .inl z2, z3⟩
theorem Rep.none {H : Hp} {kvs : List (List Key × V)} {S : Pl → Pl → Prop} {p : Pl} (r : Rep H kvs S) (h : ∀ q, ¬ S p q) : valV kvs (key p) = none := by
  cases e : valV kvs (key p) with
  | none => rfl
  | some v =>
    have m := valV_in e
    obtain ⟨kv, hkv, ek⟩ := List.mem_map.mp m
    obtain ⟨p', q', z1, z2, _⟩ := r.only kv hkv
    have : p' = p := key_inj (z1.symm.trans ek)
    subst this
    exact absurd z2 (h q')
/-! ### the image of an inner place -/
def inner (T : List (List Pl)) (p : Pl) : Option Pl := if 0 ≤ p.1 ∧ 0 ≤ p.2 then (T[p.1.toNat]?).bind (·[p.2.toNat]?) else none
theorem inner_at {T : List (List Pl)} {i j : Nat} {row : List Pl} (h : T[i]? = some row) : inner T ((i : Int), (j : Int)) = row[j]? := by
  unfold inner
  rw [if_pos ⟨by omega, by omega⟩]
  show (T[((i : Nat) : Int).toNat]?).bind _ = _
  rw [Int.toNat_natCast, h]
  show row[((j : Nat) : Int).toNat]? = _
  rw [Int.toNat_natCast]
theorem inner_some {T : List (List Pl)} {p q : Pl} (h : inner T p = some q) : ∃ (i j : Nat) (row : List Pl), p = ((i : Int), (j : Int)) ∧ T[i]? = some row ∧ row[j]? = some q := by
  unfold inner at h
  split at h
  · rename_i hp
    cases e : T[p.1.toNat]? with
    | none => rw [e] at h; cases h
    | some row =>
      rw [e] at h
      refine ⟨p.1.toNat, p.2.toNat, row, ?_, e, h⟩
      obtain ⟨a, b⟩ := p
      have h1 : 0 ≤ a := hp.1
      have h2 : 0 ≤ b := hp.2
      show (a, b) = (((a.toNat : Nat) : Int), ((b.toNat : Nat) : Int))
      rw [Int.toNat_of_nonneg h1, Int.toNat_of_nonneg h2]
  · cases h
theorem inner_out {T : List (List Pl)} {i j : Nat} (h : T[i]? = none) : inner T ((i : Int), (j : Int)) = none := by
  unfold inner
  rw [if_pos ⟨by omega, by omega⟩]
  show (T[((i : Nat) : Int).toNat]?).bind _ = _
  rw [Int.toNat_natCast, h]; rfl
theorem inner_mem {T : List (List Pl)} {p q : Pl} (h : inner T p = some q) : q ∈ T.flatten := by
  obtain ⟨i, j, row, _, h1, h2⟩ := inner_some h
  exact List.mem_flatten.mpr ⟨row, List.mem_of_getElem? h1, List.mem_of_getElem? h2⟩
theorem mem_inner {T : List (List Pl)} {q : Pl} (h : q ∈ T.flatten) : ∃ p, inner T p = some q := by
  obtain ⟨row, h1, h2⟩ := List.mem_flatten.mp h
  obtain ⟨i, hi⟩ := List.mem_iff_getElem?.mp h1
  obtain ⟨j, hj⟩ := List.mem_iff_getElem?.mp h2
  exact ⟨((i : Int), (j : Int)), by rw [inner_at hi]; exact hj⟩
theorem nodup_flatten_at : ∀ {T : List (List Pl)}, T.flatten.Nodup → ∀ {i j i' j' : Nat} {row row' : List Pl} {q : Pl}, T[i]? = some row → row[j]? = some q → T[i']? = some row' → row'[j']? = some q → i = i' ∧ j = j'
  | [], _, i, _, _, _, _, _, _, h, _, _, _ => by simp at h
  | r :: T, hn, i, j, i', j', row, row', q, h1, h2, h3, h4 => by
    have hn : (r ++ T.flatten).Nodup := hn
    obtain ⟨n1, n2, n3⟩ := List.nodup_append.mp hn
    have inT : ∀ {k : Nat} {row : List Pl} {m : Nat}, T[k]? = some row → row[m]? = some q → q ∈ T.flatten := fun a b => List.mem_flatten.mpr ⟨_, List.mem_of_getElem? a, List.mem_of_getElem? b⟩
    cases i with
    | zero =>
      have h1 : r = row := by simpa using h1
      subst h1
      cases i' with
      | zero =>
        have h3 : r = row' := by simpa using h3
        subst h3
        exact ⟨rfl, nd_ix n1 h2 h4⟩
      | succ k => exact absurd rfl (n3 q (List.mem_of_getElem? h2) q (inT (by simpa using h3) h4))
    | succ k =>
      cases i' with
      | zero =>
        have h3 : r = row' := by simpa using h3
        subst h3
        exact absurd rfl (n3 q (List.mem_of_getElem? h4) q (inT (by simpa using h1) h2))
      | succ k' =>
        obtain ⟨e1, e2⟩ := nodup_flatten_at n2 (i := k) (i' := k') (by simpa using h1) h2 (by simpa using h3) h4
        exact ⟨by omega, e2⟩
theorem inner_inj {T : List (List Pl)} (hn : T.flatten.Nodup) {p p' q : Pl} (h : inner T p = some q) (h' : inner T p' = some q) : p = p' := by
  obtain ⟨i, j, row, rfl, h1, h2⟩ := inner_some h
  obtain ⟨i', j', row', rfl, h3, h4⟩ := inner_some h'
  obtain ⟨e1, e2⟩ := nodup_flatten_at hn h1 h2 h3 h4
  rw [e1, e2]
/-! ### trimming all lanes -/
def trimAll (ds : List Int) (rows : List (List Pl)) : List (List Pl) := (List.range rows.length).map fun (i : Nat) => trimRow (i : Int) (ds.getD i 0) (rows.getD i [])
theorem trimAll_len (ds : List Int) (rows : List (List Pl)) : (trimAll ds rows).length = rows.length := by
  unfold trimAll; rw [List.length_map, List.length_range]
theorem trimAll_get {ds : List Int} {rows : List (List Pl)} {i : Nat} {row : List Pl} {d : Int} (h : rows[i]? = some row) (hd : ds[i]? = some d) : (trimAll ds rows)[i]? = some (trimRow (i : Int) d row) := by
  obtain ⟨hi, _⟩ := List.getElem?_eq_some_iff.mp h
  unfold trimAll
  rw [List.getElem?_map, List.getElem?_range hi]
  show some (trimRow (i : Int) (ds.getD i 0) (rows.getD i [])) = _
  rw [List.getD_eq_getElem?_getD, List.getD_eq_getElem?_getD, h, hd]; rfl
theorem trimAll_of {ds : List Int} {rows : List (List Pl)} (hl : rows.length = ds.length) {i : Nat} {t : List Pl} (h : (trimAll ds rows)[i]? = some t) : ∃ row d, rows[i]? = some row ∧ ds[i]? = some d ∧ t = trimRow (i : Int) d row := by
  obtain ⟨hi, _⟩ := List.getElem?_eq_some_iff.mp h
  rw [trimAll_len] at hi
  have hd : i < ds.length := hl ▸ hi
  rw [trimAll_get (List.getElem?_eq_getElem hi) (List.getElem?_eq_getElem hd)] at h
  exact ⟨_, _, List.getElem?_eq_getElem hi, List.getElem?_eq_getElem hd, (Option.some.inj h).symm⟩
theorem trimRow_get {l d : Int} {row : List Pl} {j : Nat} {q : Pl} (h : (trimRow l d row)[j]? = some q) : row[j]? = some q := by
  unfold trimRow at h
  rw [List.getElem?_take] at h
  split at h
  · exact h
  · cases h
theorem trimRow_len (l d : Int) (row : List Pl) : (trimRow l d row).length ≤ row.length := by
  unfold trimRow; rw [List.length_take]; omega
theorem inner_trim {ds : List Int} {rows : List (List Pl)} (hl : rows.length = ds.length) {p q : Pl} (h : inner (trimAll ds rows) p = some q) : inner rows p = some q := by
  obtain ⟨i, j, t, rfl, h1, h2⟩ := inner_some h
  obtain ⟨row, d, e1, _, rfl⟩ := trimAll_of hl h1
  rw [inner_at e1]
  exact trimRow_get h2
theorem row_len {rows : List (List Pl)} {i : Nat} {row : List Pl} (h : rows[i]? = some row) : row.length ≤ rows.flatten.length := by
  have := len_take_flatten rows (i + 1)
  rw [flatten_take h, List.length_append] at this; omega
/-! ### an instance -/
def flds (v1 v2 v3 v4 : V) : List (Str × V) := putF "origins" v4 (putF "images" v3 (putF "rows" v2 (putF "shifts" v1 [])))
theorem fl_shifts (v1 v2 v3 v4 : V) : (flds v1 v2 v3 v4).lookup ("shifts" : Str) = some v1 := by
  unfold flds
  rw [lookup_putF, if_neg (by decide +kernel), lookup_putF, if_neg (by decide +kernel), lookup_putF, if_neg (by decide +kernel), lookup_putF, if_pos rfl]
theorem fl_rows (v1 v2 v3 v4 : V) : (flds v1 v2 v3 v4).lookup ("rows" : Str) = some v2 := by
  unfold flds
  rw [lookup_putF, if_neg (by decide +kernel), lookup_putF, if_neg (by decide +kernel), lookup_putF, if_pos rfl]
theorem fl_images (v1 v2 v3 v4 : V) : (flds v1 v2 v3 v4).lookup ("images" : Str) = some v3 := by
  unfold flds
  rw [lookup_putF, if_neg (by decide +kernel), lookup_putF, if_pos rfl]
theorem fl_origins (v1 v2 v3 v4 : V) : (flds v1 v2 v3 v4).lookup ("origins" : Str) = some v4 := by
  unfold flds
  rw [lookup_putF, if_pos rfl]
theorem fl_no (v1 v2 v3 v4 : V) {m : Str} (h1 : ¬ m = "origins") (h2 : ¬ m = "images") (h3 : ¬ m = "rows") (h4 : ¬ m = "shifts") : (flds v1 v2 v3 v4).lookup m = none := by
  unfold flds
  rw [lookup_putF, if_neg h1, lookup_putF, if_neg h2, lookup_putF, if_neg h3, lookup_putF, if_neg h4]; rfl
theorem putF_len (f : Str) (v : V) (l : List (Str × V)) : (putF f v l).length ≤ l.length + 1 := by
  induction l with
  | nil => exact Nat.le_refl _
  | cons p r ih =>
    unfold putF
    split
    · simp
    · simp only [List.length_cons]; omega
/-- a LaneMap at v -/
def LMap (C : Addr) (H : Hp) (v : V) (ds : List Int) (T : List (List Pl)) : Prop := ∃ p dx a1 v2 a3 a4 im og, v = .ref p ∧ H p = some (.ins C dx (flds (.ref a1) v2 (.ref a3) (.ref a4))) ∧ H a1 = some (.lst (ds.map V.int)) ∧ RowsAt H v2 T ∧
  H a3 = some (.dT im) ∧ Rep H im (fun p q => inner T p = some q) ∧ H a4 = some (.dT og) ∧ Rep H og (fun q p => inner T p = some q)
theorem LMap.mono {C : Addr} {H H' : Hp} {v : V} {ds : List Int} {T : List (List Pl)} (s : Same H H') (h : LMap C H v ds T) : LMap C H' v ds T :=
  let ⟨p, dx, a1, v2, a3, a4, im, og, e, h1, h2, h3, h4, h5, h6, h7⟩ := h
  ⟨p, dx, a1, v2, a3, a4, im, og, e, s _ _ h1, s _ _ h2, h3.mono s, s _ _ h4, h5.mono s, s _ _ h6, h7.mono s⟩
theorem sum_lens (rows : List (List Pl)) : (rows.map fun x => ((x.length : Nat) : Int)).sum = (rows.flatten.length : Nat) := by
  induction rows with
  | nil => rfl
  | cons a r ih => rw [List.map_cons, List.sum_cons, ih, List.flatten_cons, List.length_append]; omega
end L2.FK
/-! The text by places, what is asked of the top, data in the heap, and the small defs. -/
namespace L2.FK
open PySem PySem.Spec PyProof.Rows L2.FL
def top (i : Nat) : Stmt := PySem.Challenge.pw_farlanes_k41_whole_texts_are_maps_or_non.main.body.getD i (.Pass ⟨0, 0, 0, 0⟩)
abbrev sCheckLanes : Stmt := top 18
abbrev sCheckWidth : Stmt := top 19
abbrev sIsPlace : Stmt := top 20
abbrev sCopied : Stmt := top 21
abbrev sImages : Stmt := top 22
abbrev sBijective : Stmt := top 23
abbrev sWrong : Stmt := top 24
abbrev sTrimmed : Stmt := top 25
abbrev sMap : Stmt := top 27
abbrev sBag : Stmt := top 35
abbrev sPull : Stmt := top 36
abbrev sOf : Stmt := top 37
abbrev sDrifts : Stmt := top 38
abbrev sDeal : Stmt := top 39
abbrev sAny : Stmt := top 40
abbrev sLeast : Stmt := top 41
abbrev sIsMap : Stmt := top 42
abbrev sLike : Stmt := top 43
abbrev sField : Stmt := top 44
abbrev sTold : Stmt := top 45
abbrev sLaneError : Stmt := top 2
abbrev sBadLanes : Stmt := top 3
abbrev sBadGoal : Stmt := top 4
abbrev sNotBijective : Stmt := top 5
abbrev sTooWide : Stmt := top 6
abbrev sMissing : Stmt := top 8
abbrev sNothingLeft : Stmt := top 9
abbrev sLaw : Stmt := top 52
abbrev t__wall : Stmt := top 0
abbrev t_LaneError : Stmt := top 2
abbrev t_BadLanes : Stmt := top 3
abbrev t_BadGoal : Stmt := top 4
abbrev t_NotBijective : Stmt := top 5
abbrev t_TooWide : Stmt := top 6
abbrev t_BadText : Stmt := top 7
abbrev t_Missing : Stmt := top 8
abbrev t_NothingLeft : Stmt := top 9
abbrev t_natural_of : Stmt := top 11
abbrev t_integer_of : Stmt := top 12
abbrev t_place_of : Stmt := top 13
abbrev t_place_text : Stmt := top 14
abbrev t_check_lanes : Stmt := top 18
abbrev t_check_width : Stmt := top 19
abbrev t_is_place : Stmt := top 20
abbrev t_copied_rows : Stmt := top 21
abbrev t_check_images : Stmt := top 22
abbrev t_check_bijective : Stmt := top 23
abbrev t_first_wrong : Stmt := top 24
abbrev t_trimmed : Stmt := top 25
abbrev t_part_text : Stmt := top 26
abbrev t_LaneMap : Stmt := top 27
abbrev t_format_map : Stmt := top 30
abbrev t_read_part : Stmt := top 31
abbrev t_read_parts : Stmt := top 32
abbrev t_parse_map : Stmt := top 33
abbrev t__law_bag : Stmt := top 35
abbrev t__law_pull : Stmt := top 36
abbrev t__law_of : Stmt := top 37
abbrev t__law_drifts : Stmt := top 38
abbrev t__law_deal : Stmt := top 39
abbrev t__law_any : Stmt := top 40
abbrev t__law_least : Stmt := top 41
abbrev t__law_is_map : Stmt := top 42
abbrev t__law_like : Stmt := top 43
abbrev t__law_field : Stmt := top 44
abbrev t__law_told : Stmt := top 45
abbrev t__law_map_text : Stmt := top 46
abbrev t__law_number_in : Stmt := top 47
abbrev t__law_place_in : Stmt := top 48
abbrev t__law_parts_in : Stmt := top 49
abbrev t__law_is_model : Stmt := top 50
abbrev t__law_bent : Stmt := top 51
abbrev t_law : Stmt := top 52
end L2.FK
namespace L2.FK
open PySem PySem.Spec PyProof.Rows L2.FL
/-- a def of the module with its parameters -/
def Has (K : PySem.W.Frag) (mg : Str → Option Value) (x : Str) (st : Stmt) (ps : List Str) : Prop := ∃ f fd, C8.Def K mg x st f fd ∧ Binds K fd ps []
/-- the built-ins are the built-ins, the constants stand -/
structure Bl (mg : Str → Option Value) : Prop where
  len : mg "len" = none
  sum : mg "sum" = none
  range : mg "range" = none
  enumerate : mg "enumerate" = none
  max : mg "max" = none
  min : mg "min" = none
  list : mg "list" = none
  tuple : mg "tuple" = none
  isinstance : mg "isinstance" = none
  all : mg "all" = none
  zip : mg "zip" = none
  int : mg "int" = none
  bool : mg "bool" = none
  str : mg "str" = none
  lanes : ∃ t, mg "MOST_LANES" = some (.int 6 t)
  goals : ∃ t, mg "MOST_GOALS" = some (.int 2000 t)
section
variable {P : Program} {w : World} {K : PySem.W.Frag} {mg : Str → Option Value} {base : Heap}
theorem cal_of {x : Str} {st : Stmt} {N ps : List Str} {k : Nat} {sp : Sp} (h : Has K mg x st ps) (S : FnScope N ps (C8.fnScope st)) (len : ∀ vs H Q E, sp vs H Q E → vs.length = ps.length)
    (hbody : ∀ (f : Addr) (cdv : Value) (A : Around) (outer : List Env) (s : Shared) (H : Hp) (vs : List V) (Q : VK) (E : XK), Room k (A.deeper (envOfC x (C8.fnScope st) s.heap.objs.size f cdv)) → sp vs H Q E →
      ∃ t, PSs (cxOf C8.CX0 P w K mg base N x (C8.fnScope st) f cdv A outer s H E).nox (C8.fnBody st) t ∧ t { nx := fun _ H' => Q .non H', rt := Q } (start N vs) H) : C8.Cal P w K mg base (k + 1) x sp [] := by
  obtain ⟨f, fd, F, b⟩ := h
  exact C8.cal0 F b .nil S len fun cdv A outer s H vs Q E hr hs => hbody f cdv A outer s H vs Q E hr hs
/-! ### check_lanes -/
def spCL : Sp := fun vs H Q _ => ∃ n : Int, vs = [.int n] ∧ 1 ≤ n ∧ n ≤ 6 ∧ Q .non H
theorem sc_cl : FnScope ["lanes"] ["lanes"] (C8.fnScope sCheckLanes) := C8.fnScope_by (by decide +kernel)
theorem ok_check_lanes (h : Has K mg "check_lanes" sCheckLanes ["lanes"]) (B : Bl mg) : C8.Cal P w K mg base 1 "check_lanes" spCL [] := by
  refine cal_of (N := ["lanes"]) h sc_cl (fun vs H Q E z => ?_) (fun f cdv A outer s H vs Q E hr z => ?_)
  · obtain ⟨n, rfl, _⟩ := z; rfl
  obtain ⟨n, rfl, h1, h2, q⟩ := z
  obtain ⟨t, ht⟩ := B.lanes
  refine ⟨_, pss_one (ps_if (pt_not (pt_chain op_le op_le pe_int (pv 0) (pe_glob (v := .int 6) rfl ht ⟨_, rfl⟩))) (pss_one ps_never) pss_nil), ?_⟩
  refine ⟨_, rfl, _, _, rfl, rfl, _, rfl, ?_⟩
  rw [decide_eq_true h1]
  refine iteT ⟨_, _, rfl, rfl, _, rfl, ?_⟩
  rw [decide_eq_true h2]
  exact iteF q
/-! ### check_width -/
def spCW (K : PySem.W.Frag) : Sp := fun vs H Q _ => ∃ (a : Addr) (ns : List Int), vs = [.ref a] ∧ SqL K H a (ns.map V.int) ∧ ns.sum ≤ 2000 ∧ Q .non H
theorem sc_cw : FnScope ["bounds"] ["bounds"] (C8.fnScope sCheckWidth) := C8.fnScope_by (by decide +kernel)
theorem ok_check_width (h : Has K mg "check_width" sCheckWidth ["bounds"]) (B : Bl mg) : C8.Cal P w K mg base 1 "check_width" (spCW K) [] := by
  refine cal_of (N := ["bounds"]) h sc_cw (fun vs H Q E z => ?_) (fun f cdv A outer s H vs Q E hr z => ?_)
  · obtain ⟨a, ns, rfl, _⟩ := z; rfl
  obtain ⟨a, ns, rfl, hs, h2, q⟩ := z
  obtain ⟨t, ht⟩ := B.goals
  refine ⟨_, pss_one (ps_if (pt_cmpR op_gt (pe_callB (cr_sum rfl) (by rfl) B.sum bt_sum (pa_cons (pv 0) pa_nil)) (pe_glob (v := .int 2000) rfl ht ⟨_, rfl⟩) (nomark _)) (pss_one ps_never) pss_nil), ?_⟩
  refine ⟨_, rfl, a, ns, rfl, hs, _, _, rfl, rfl, _, rfl, ?_⟩
  rw [decide_eq_false (by omega)]
  exact iteF q
/-! ### is_place -/
def isPl (n : Int) (p : Pl) : Bool := decide (0 ≤ p.1) && (decide (p.1 < n) && decide (p.2 ≥ 0))
def spIP : Sp := fun vs H Q _ => ∃ (n : Int) (v : V) (p : Pl), vs = [.int n, v] ∧ PlAt H v p ∧ Q (.bl (isPl n p)) H
theorem sc_ip : FnScope ["lanes", "place", "lane", "at"] ["lanes", "place"] (C8.fnScope sIsPlace) := C8.fnScope_by (by decide +kernel)
theorem ok_is_place (h : Has K mg "is_place" sIsPlace ["lanes", "place"]) : C8.Cal P w K mg base 1 "is_place" spIP [] := by
  refine cal_of h sc_ip (fun vs H Q E z => ?_) (fun f cdv A outer s H vs Q E hr z => ?_)
  · obtain ⟨n, v, p, rfl, _⟩ := z; rfl
  obtain ⟨n, v, ⟨l, a⟩, rfl, ⟨t, rfl, ht⟩, q⟩ := z
  refine ⟨_, pss_cons (ps_asg (pv 1) (pg_tup (by rfl) (pgs_cons (pg_name (i := 2) sc_ip.nd rfl (.inl rfl)) (pgs_cons (pg_name (i := 3) sc_ip.nd rfl (.inl rfl)) pgs_nil))))
    (pss_one (ps_ret (pe_and (pe_chain op_le op_lt pe_int (pv 2) (pv 0)) (pe_one (pe_cmpR op_ge (pv 3) pe_int (nomark _)))))), ?_⟩
  refine ⟨_, rfl, t, _, rfl, .inl (.inl ht), rfl, ?_⟩
  refine ⟨_, _, rfl, _, _, rfl, rfl, ?_⟩
  refine ⟨_, rfl, _, _, rfl, rfl, _, rfl, ?_⟩
  by_cases c1 : 0 ≤ l
  · rw [decide_eq_true c1]
    refine iteT ⟨_, rfl, _, _, rfl, rfl, _, rfl, ?_⟩
    by_cases c2 : l < n
    · rw [decide_eq_true c2]
      refine iteT ⟨_, rfl, _, _, rfl, rfl, ?_⟩
      have e : isPl n (l, a) = decide (a ≥ 0) := by show (decide (0 ≤ l) && (decide (l < n) && decide (a ≥ 0))) = _; rw [decide_eq_true c1, decide_eq_true c2] <;> rfl
      rw [e] at q; exact q
    · rw [decide_eq_false c2]
      have e : isPl n (l, a) = false := by show (decide (0 ≤ l) && (decide (l < n) && decide (a ≥ 0))) = _; rw [decide_eq_true c1, decide_eq_false c2] <;> rfl
      rw [e] at q
      exact iteF q
  · rw [decide_eq_false c1]
    have e : isPl n (l, a) = false := by show (decide (0 ≤ l) && (decide (l < n) && decide (a ≥ 0))) = _; rw [decide_eq_false c1] <;> rfl
    rw [e] at q
    exact iteF ⟨_, rfl, iteF q⟩
/-! ### check_place -/
def spCP : Sp := fun vs H Q _ => ∃ (n : Int) (v : V) (p : Pl), vs = [.int n, v] ∧ PlAt H v p ∧ isPl n p = true ∧ Q .non H
/-! ### copied_rows -/
/-- goals as they are handed over: rows, or the empty tuple of the text in the place of empty rows -/
def Gin (K : PySem.W.Frag) (H : Hp) (v : V) (rows : List (List Pl)) : Prop := RowsAt H v rows ∨ ((∃ e : Addr, v = .ref e ∧ SqT K H e []) ∧ rows = List.replicate rows.length [])
def spCR (K : PySem.W.Frag) : Sp := fun vs H Q _ => ∃ (v : V) (rows : List (List Pl)), vs = [.int rows.length, v] ∧ 1 ≤ rows.length ∧ rows.length ≤ 6 ∧ Gin K H v rows ∧ ∀ r H', Same H H' → RowsAt H' r rows → Q r H'
theorem sc_cr : FnScope ["lanes", "goals", "row", "lane"] ["lanes", "goals"] (C8.fnScope sCopied) := C8.fnScope_by (by decide +kernel)
theorem ok_copied (h : Has K mg "copied_rows" sCopied ["lanes", "goals"]) (B : Bl mg) : C8.Cal P w K mg base 1 "copied_rows" (spCR K) [] := by
  refine cal_of h sc_cr (fun vs H Q E z => ?_) (fun f cdv A outer s H vs Q E hr z => ?_)
  · obtain ⟨v, rows, rfl, _⟩ := z; rfl
  obtain ⟨v, rows, rfl, h1, h6, gin, q⟩ := z
  have nd := sc_cr.nd
  refine ⟨_, pss_cons (ps_if (pt_cmpR op_eq (pe_callB call_len_seq (by rfl) B.len bt_len (pa_cons (pv 1) pa_nil)) pe_int (nomark _))
      (pss_one (ps_ret (pe_lc (own := [("lane", 3)]) (g := gName 3) (tt := tYes) rfl nd (pi_range1 rfl B.range (pa_cons (pv 0) pa_nil)) (blkOk_by (own := [("lane", 3)]) (N := ["lanes", "goals", "row", "lane"]) (sc := C8.fnScope sCopied) (by decide +kernel))
        (fun _ _ _ _ _ => pg_name (i := 3) nd rfl (Or.inl rfl)) (fun _ _ _ _ _ => pts_nil) (fun _ _ _ _ _ => pe_lst pa_nil)))) pss_nil)
    (pss_cons (ps_if (pt_cmpR op_ne (pe_callB call_len_seq (by rfl) B.len bt_len (pa_cons (pv 1) pa_nil)) (pv 0) (nomark _)) (pss_one ps_never) pss_nil)
    (pss_one (ps_ret (pe_lc (own := [("row", 2)]) (g := gName 2) (tt := tYes) rfl nd (pi_list (pv 1)) (blkOk_by (own := [("row", 2)]) (N := ["lanes", "goals", "row", "lane"]) (sc := C8.fnScope sCopied) (by decide +kernel))
      (fun _ _ _ _ _ => pg_name (i := 2) nd rfl (Or.inl rfl)) (fun _ _ _ _ _ => pts_nil)
      (fun _ _ _ _ _ => pe_callTy (c_list K) (by rfl) B.list bt_list (pa_cons (pv 2) pa_nil)))))), ?_⟩
  rcases gin with ⟨a, vs, rfl, ha, hp⟩ | ⟨⟨e, rfl, he⟩, hrep⟩
  rotate_left
  · refine ⟨_, rfl, e, _, rfl, .inr he, rfl, _, rfl, ?_⟩
    rw [decide_eq_true (by rfl)]
    refine iteT ⟨_, rfl, _, rfl, by omega, by omega, fun D hD => ?_⟩
    rw [Int.toNat_natCast]
    refine lc_it (walk_range (lo := 0) (n := rows.length)) (fun i H' => Same H (del D H') ∧ ∃ us, H' D = some (.lst us) ∧ Paired (RowAt (del D H')) us (List.replicate i [])) ?_ ?_ ?_ ?_
    · exact ⟨by rw [del_upd]; exact same_del (Same.refl _) hD, [], upd_same, .nil⟩
    · rintro i H' _ _; trivial
    · rintro i x H2 H3 hi ⟨s', us, hu, hp'⟩ ⟨rfl, rfl⟩
      refine ⟨rfl, (by show 0 ≤ sizeLine; decide), fun l hl' => ?_⟩
      have nl : l ≠ D := (ne_of_none hu hl').symm
      refine ⟨us, by rw [upd_ne nl.symm]; exact hu, snoc_le (by rw [paired_len hp', List.length_replicate]; omega), ?_⟩
      have ed : del D (upd (upd H3 l (.lst [])) D (.lst (us ++ [.ref l]))) = upd (del D H3) l (.lst []) := by rw [del_upd, del_upd_ne nl]
      have sn : Same (del D H3) (upd (del D H3) l (.lst [])) := same_new (none_del hl') _
      refine ⟨by rw [ed]; exact s'.trans sn, _, upd_same, ?_⟩
      rw [ed, List.replicate_succ']
      exact paired_snoc (rows_mono sn hp') ⟨l, [], rfl, upd_same, .nil⟩
    · rintro H2 ⟨s', us, hu, hp'⟩
      exact q _ _ (s'.trans del_same) ⟨D, us, rfl, hu, by rw [hrep]; exact rows_mono del_same hp'⟩
  have hl := paired_len hp
  refine ⟨_, rfl, a, _, rfl, .inl (SqL.of ha), rfl, _, rfl, ?_⟩
  rw [decide_eq_false (by intro e; injection e with e; omega)]
  refine iteF ⟨_, rfl, a, _, rfl, .inl (SqL.of ha), _, rfl, rfl, _, rfl, ?_⟩
  refine iteNS (by rw [hl]) ?_
  refine ⟨_, rfl, a, rfl, ⟨_, SqL.of ha⟩, fun D hD => ?_⟩
  refine lc_it (walk_list (K := K) (a := a) (xs := vs)) (fun i H' => Same H (del D H') ∧ ∃ us, H' D = some (.lst us) ∧ Paired (RowAt (del D H')) us (rows.take i)) ?_ ?_ ?_ ?_
  · exact ⟨by rw [del_upd]; exact same_del (Same.refl _) hD, [], upd_same, by rw [List.take_zero]; exact .nil⟩
  · rintro i H' _ ⟨s', _⟩
    exact SqL.of (del_same _ _ (s' _ _ ha))
  · rintro i x H1 H2 hi ⟨s', us, hu, hp'⟩ ⟨rfl, hx⟩
    obtain ⟨row, hrow, b, ws, rfl, hb, hw⟩ := paired_get hp i hx
    refine ⟨rfl, _, rfl, b, _, rfl, .inl (SqL.of (del_same _ _ (s' _ _ hb))), fun l hl' => ?_⟩
    have nl : l ≠ D := (ne_of_none hu hl').symm
    refine ⟨us, by rw [upd_ne nl.symm]; exact hu, snoc_le (by rw [paired_len hp', List.length_take]; omega), ?_⟩
    have ed : del D (upd (upd H2 l (.lst ws)) D (.lst (us ++ [.ref l]))) = upd (del D H2) l (.lst ws) := by rw [del_upd, del_upd_ne nl]
    have sn : Same (del D H2) (upd (del D H2) l (.lst ws)) := same_new (none_del hl') _
    refine ⟨by rw [ed]; exact s'.trans sn, _, upd_same, ?_⟩
    rw [ed, take_snoc hrow]
    exact paired_snoc (rows_mono sn hp') ⟨l, ws, rfl, upd_same, pls_mono (s'.trans sn) hw⟩
  · rintro H' ⟨s', us, hu, hp'⟩
    rw [hl, List.take_length] at hp'
    exact q _ _ (s'.trans del_same) ⟨D, us, rfl, hu, rows_mono del_same hp'⟩
/-! ### check_images -/
def spCI (K : PySem.W.Frag) : Sp := fun vs H Q _ => ∃ (a : Addr) (v : V) (ds : List Int) (rows : List (List Pl)), vs = [.ref a, v] ∧ SqL K H a (ds.map V.int) ∧ RowsAt H v rows ∧ rows.length = ds.length ∧
  (∀ row ∈ rows, ∀ p ∈ row, isPl (rows.length : Nat) p = true) ∧ (∀ (i : Nat) row d, rows[i]? = some row → ds[i]? = some d → 0 ≤ (row.length : Int) + d) ∧ ∀ H', Same H H' → Q .non H'
theorem sc_ci : FnScope ["drifts", "rows", "lane", "row", "at", "image"] ["drifts", "rows"] (C8.fnScope sImages) := C8.fnScope_by (by decide +kernel)
theorem ok_images (h : Has K mg "check_images" sImages ["drifts", "rows"]) (B : Bl mg) (c : C8.Cal P w K mg base 1 "is_place" spIP []) : C8.Cal P w K mg base 2 "check_images" (spCI K) [] := by
  refine cal_of h sc_ci (fun vs H Q E z => ?_) (fun f cdv A outer s H vs Q E hr z => ?_)
  · obtain ⟨a, v, ds, rows, rfl, _⟩ := z; rfl
  obtain ⟨a, v, ds, rows, rfl, hA, ⟨b, ws, rfl, hb, hp⟩, hlen, hpl, hst, q⟩ := z
  have hl := paired_len hp
  have nd := sc_ci.nd
  refine ⟨_, pss_one (ps_for PassesOwn.never rfl (pi_enum rfl B.enumerate (pa_cons (pv 1) pa_nil)) (pg_tup rfl (pgs_cons (pg_name (i := 2) nd rfl (.inl rfl)) (pgs_cons (pg_name (i := 3) nd rfl (.inl rfl)) pgs_nil)))
    (pss_cons (ps_for PassesOwn.never rfl (pi_enum rfl B.enumerate (pa_cons (pv 3) pa_nil)) (pg_tup rfl (pgs_cons (pg_name (i := 4) nd rfl (.inl rfl)) (pgs_cons (pg_name (i := 5) nd rfl (.inl rfl)) pgs_nil)))
      (pss_one (ps_if (pt_not (pt_val (C8.pe_c c hr (by decide) rfl (pa_cons (pe_callB call_len_seq (by rfl) B.len bt_len (pa_cons (pv 1) pa_nil)) (pa_cons (pv 5) pa_nil))))) (pss_one ps_never) pss_nil)))
    (pss_one (ps_if (pt_cmpR op_lt (pe_op op_add (pe_callB call_len_seq (by rfl) B.len bt_len (pa_cons (pv 3) pa_nil)) (pe_ix ix_list (pv 0) (pv 2) (fun _ _ => rfl))) pe_int (nomark _)) (pss_one ps_never) pss_nil)))), ?_⟩
  refine ⟨_, rfl, b, _, rfl, SqL.of hb, for_it (walk_enum (K := K) (a := b) (xs := ws)) (fun i σ H' => Same H H' ∧ ∃ x2 x3 x4 x5, σ = [some (.ref a), some (.ref b), x2, x3, x4, x5]) ⟨Same.refl _, _, _, _, _, rfl⟩ ?_ ?_ ?_⟩
  · rintro i σ H' _ ⟨s', _⟩; exact SqL.of (s' _ _ hb)
  · rintro i x σ H1 H2 hi ⟨s1, x2, x3, x4, x5, rfl⟩ ⟨T, y1, y2, rfl, hT, rfl, e1, e2⟩
    cases e1
    obtain ⟨row, hrow, r, us, rfl, hr', hu⟩ := paired_get hp i e2
    have s2 := s1.trans (same_new hT (.tup [.int (i : Nat), .ref r]))
    refine ⟨T, _, rfl, .inl (.inl upd_same), rfl, _, _, rfl, _, _, rfl, rfl, ?_⟩
    refine ⟨_, rfl, r, us, rfl, SqL.of (s2 _ _ hr'), for_it (walk_enum (K := K) (a := r) (xs := us)) (fun j σ H' => Same H H' ∧ ∃ x4 x5, σ = [some (.ref a), some (.ref b), some (.int (i : Nat)), some (.ref r), x4, x5]) ⟨s2, _, _, rfl⟩ ?_ ?_ ?_⟩
    · rintro j σ H' _ ⟨s', _⟩; exact SqL.of (s' _ _ hr')
    · rintro j x σ H3 H4 hj ⟨s3, x4, x5, rfl⟩ ⟨T', z1, z2, rfl, hT', rfl, f1, f2⟩
      cases f1
      obtain ⟨p, hpp, hpt⟩ := paired_get hu j f2
      have s4 := s3.trans (same_new hT' (.tup [.int (j : Nat), z2]))
      refine ⟨T', _, rfl, .inl (.inl upd_same), rfl, _, _, rfl, _, _, rfl, rfl, ?_⟩
      refine ⟨_, rfl, b, _, rfl, .inl (SqL.of (s4 _ _ hb)), _, rfl, _, _, p, rfl, hpt.mono s4, ?_⟩
      rw [hl, hpl row (List.mem_of_getElem? hrow) p (List.mem_of_getElem? hpp)]
      exact ⟨_, rfl, iteF ⟨s4, _, _, rfl⟩⟩
    · rintro σ H3 ⟨s3, x4, x5, rfl⟩
      have hd : i < ds.length := by rw [← hlen, ← hl]; exact hi
      refine ⟨_, rfl, r, us, rfl, .inl (SqL.of (s3 _ _ hr')), _, rfl, _, rfl, a, _, _, _, rfl, rfl, s3.seq hA, atI_nat (by rw [List.getElem?_map, List.getElem?_eq_getElem hd]; rfl), _, _, rfl, rfl, _, _, rfl, rfl, _, rfl, ?_⟩
      rw [decide_eq_false (by have := hst i row _ hrow (List.getElem?_eq_getElem hd); rw [paired_len hu]; omega)]
      exact iteF ⟨s3, _, _, _, _, rfl⟩
  · rintro σ H' ⟨s', _⟩
    exact q H' s'
end
end L2.FK
namespace L2.FK
open PySem PySem.Spec PyProof.Rows L2.FL
/-- the law's bag at b -/
def BagAt (H : Hp) (b sa : Addr) : Prop := ∃ (ns : List Int) (i held mix cnt : Int), H b = some (.lst [.ref sa, .int i, .int held, .int mix, .int cnt]) ∧ del b H sa = some (.lst (ns.map V.int)) ∧ 0 ≤ i ∧ 0 ≤ held ∧ 0 ≤ mix ∧ mix < 2147483629
theorem BagAt.mono {H H' : Hp} {b sa : Addr} (s : Same H H') (h : BagAt H b sa) : BagAt H' b sa :=
  let ⟨ns, i, held, mix, cnt, h1, h2, r⟩ := h
  ⟨ns, i, held, mix, cnt, s _ _ h1, same_dels s _ _ h2, r⟩
theorem BagAt.put {H : Hp} {b sa a : Addr} {o : HO} (h : BagAt H b sa) (n1 : b ≠ a) (n2 : sa ≠ a) : BagAt (upd H a o) b sa :=
  let ⟨ns, i, held, mix, cnt, h1, h2, r⟩ := h
  ⟨ns, i, held, mix, cnt, by rw [upd_ne n1]; exact h1, by rw [del_upd_ne n1.symm, upd_ne n2]; exact h2, r⟩
theorem BagAt.old {H : Hp} {b sa a : Addr} (h : BagAt H b sa) (n : H a = none) : b ≠ a ∧ sa ≠ a :=
  let ⟨ns, i, held, mix, cnt, h1, h2, r⟩ := h
  ⟨ne_of_none h1 n, ne_of_none (of_del h2).1 n⟩
section
variable {H H' : Hp} {b sa : Addr} {v : V}
theorem all_ref {F : V → α → Prop} {vs : List V} {l : List α} (hf : ∀ v x, F v x → ∃ a, v = V.ref a) (h : Paired F vs l) {i held mix cnt : Int} : HO.lst vs ≠ .lst [.ref sa, .int i, .int held, .int mix, .int cnt] := by
  intro e
  injection e with e
  subst e
  cases h with
  | cons _ t => cases t with
    | cons r _ =>
      obtain ⟨a, e⟩ := hf _ _ r
      cases e
theorem IntsAt.bag (B : BagAt H b sa) {ns : List Int} (h : IntsAt H v ns) : IntsAt (FK.del b H) v ns := by
  obtain ⟨_, i, held, mix, cnt, h1, _⟩ := B
  obtain ⟨a, e, q⟩ := h
  refine ⟨a, e, del_of h1 q fun z => ?_⟩
  injection z with z
  cases ns with
  | nil => cases z
  | cons n r => rw [List.map_cons] at z; injection z with z _; cases z
theorem PlAt.bag (B : BagAt H b sa) {p : Pl} (h : PlAt H v p) : PlAt (FK.del b H) v p := by
  obtain ⟨_, i, held, mix, cnt, h1, _⟩ := B
  exact h.del h1 fun _ z => nomatch z
theorem pls_bag (B : BagAt H b sa) {vs : List V} {row : List Pl} (h : Paired (PlAt H) vs row) : Paired (PlAt (FK.del b H)) vs row := paired_mono h fun _ _ z => z.bag B
theorem RowAt.bag (B : BagAt H b sa) {row : List Pl} (h : RowAt H v row) : RowAt (FK.del b H) v row := by
  obtain ⟨a, vs, e, q, r⟩ := h
  have B' := B
  obtain ⟨_, i, held, mix, cnt, h1, _⟩ := B
  exact ⟨a, vs, e, del_of h1 q (all_ref (fun _ _ z => ⟨z.choose, z.choose_spec.1⟩) r), pls_bag B' r⟩
theorem RowsAt.bag (B : BagAt H b sa) {rows : List (List Pl)} (h : RowsAt H v rows) : RowsAt (FK.del b H) v rows := by
  obtain ⟨a, vs, e, q, r⟩ := h
  have B' := B
  obtain ⟨_, i, held, mix, cnt, h1, _⟩ := B
  exact ⟨a, vs, e, del_of h1 q (all_ref (fun _ _ z => ⟨z.choose, z.choose_spec.choose_spec.1⟩) r), paired_mono r fun _ _ z => z.bag B'⟩
theorem DAt.bag (B : BagAt H b sa) {ds : List Int} {rows : List (List Pl)} (h : DAt H v ds rows) : DAt (FK.del b H) v ds rows := by
  obtain ⟨t, v1, v2, e, q, r1, r2⟩ := h
  have B' := B
  obtain ⟨_, i, held, mix, cnt, h1, _⟩ := B
  exact ⟨t, v1, v2, e, del_of h1 q (fun z => nomatch z), r1.bag B', r2.bag B'⟩
end
section
variable {P : Program} {w : World} {K : PySem.W.Frag} {mg : Str → Option Value} {base : Heap}
theorem cut63 (ns : List Int) : ∃ ms : List Int, cutV (ns.map V.int) none (some 63) = ms.map V.int ∧ ms.length ≤ 63 := by
  refine ⟨ns.take 63, ?_, by rw [List.length_take]; omega⟩
  unfold cutV
  rw [show (63 : Int) = ((63 : Nat) : Int) from rfl, HT.sIx_nat, HT.sIx_none, List.drop_zero, Nat.sub_zero, List.map_take]
  by_cases c : 63 ≤ (ns.map V.int).length
  · rw [Nat.min_eq_left c]
  · rw [Nat.min_eq_right (by omega), List.take_length, List.take_of_length_le (by omega)]
def spBag (K : PySem.W.Frag) : Sp := fun vs H Q _ => ∃ (a : Addr) (ns : List Int), vs = [.ref a] ∧ SqL K H a (ns.map V.int) ∧ ∀ b sa H', H b = none → Same H (del b H') → BagAt H' b sa → Q (.ref b) H'
theorem sc_bag : FnScope ["_law_script", "_law_mix", "_law_cell"] ["_law_script"] (C8.fnScope sBag) := C8.fnScope_by (by decide +kernel)
theorem ok_bag (h : Has K mg "_law_bag" sBag ["_law_script"]) (B : Bl mg) : C8.Cal P w K mg base 1 "_law_bag" (spBag K) [] := by
  refine cal_of h sc_bag (fun vs H Q E z => ?_) (fun f cdv A outer s H vs Q E hr z => ?_)
  · obtain ⟨a, ns, rfl, _⟩ := z; rfl
  obtain ⟨a, ns, rfl, hs, q⟩ := z
  have nd := sc_bag.nd
  obtain ⟨ms, em, hm⟩ := cut63 ns
  refine ⟨_, pss_cons (ps_set (i := 1) nd rfl (.inl rfl) pe_int)
    (pss_cons (ps_for PassesOwn.never rfl (pi_list (pe_slice sl_list (pv 0) po_none (po_some pe_int))) (pg_name (i := 2) nd rfl (.inl rfl))
      (pss_one (ps_set (i := 1) nd rfl (.inl rfl) (pe_op op_mod (pe_op op_add (pe_op op_add (pe_op op_mul (pv 1) pe_int) (pe_op op_mod (pv 2) pe_int)) pe_int) pe_int))))
    (pss_one (ps_ret (pe_lst (pa_cons (pe_callTy (c_list K) (by rfl) B.list bt_list (pa_cons (pe_slice sl_list (pv 0) po_none (po_some pe_int)) pa_nil)) (pa_cons pe_int (pa_cons pe_int (pa_cons (pv 1) (pa_cons pe_int pa_nil))))))))), ?_⟩
  refine ⟨_, rfl, _, rfl, a, _, rfl, hs, fun p hp => ?_⟩
  rw [em]
  have s1 := same_new hp (.lst (ms.map V.int))
  have g1 : upd H p (.lst (ms.map V.int)) p = _ := upd_same
  generalize upd H p (.lst (ms.map V.int)) = H1 at s1 g1
  refine ⟨p, rfl, ⟨_, SqL.of g1⟩, for_it (walk_list (K := K) (a := p) (xs := ms.map V.int)) (fun i σ H' => H' = H1 ∧ ∃ (mix : Int) (x : Option V), 0 ≤ mix ∧ mix < 2147483629 ∧ σ = [some (.ref a), some (.int mix), x]) ⟨rfl, 9478, _, by decide, by decide, rfl⟩ ?_ ?_ ?_⟩
  · rintro i σ H' _ ⟨rfl, _⟩; exact SqL.of g1
  · rintro i x σ H2 H3 hi ⟨rfl, mix, x', h0, h1, rfl⟩ ⟨rfl, hx⟩
    rw [List.getElem?_map] at hx
    cases e : ms[i]? with
    | none => rw [e] at hx; cases hx
    | some m =>
      rw [e] at hx; cases hx
      refine ⟨_, rfl, _, _, rfl, rfl, .inl ⟨by omega, by omega⟩, _, rfl, _, _, rfl, rfl, (by show (0 : Int) < 2147483629; decide), _, _, rfl, rfl, _, _, rfl, rfl, _, _, rfl, rfl, (by show (0 : Int) < 2147483629; decide), rfl, _, _, ?_, ?_, rfl⟩
      · exact Int.emod_nonneg _ (by decide)
      · exact Int.emod_lt_of_pos _ (by decide)
  · rintro σ H2 ⟨rfl, mix, x', h0, h1, rfl⟩
    refine ⟨_, rfl, _, rfl, a, _, rfl, s1.seq hs, fun p2 hp2 => ?_⟩
    rw [em]
    have s2 := same_new hp2 (.lst (ms.map V.int))
    have g2 : upd H2 p2 (.lst (ms.map V.int)) p2 = _ := upd_same
    generalize upd H2 p2 (.lst (ms.map V.int)) = H3 at s2 g2
    refine ⟨p2, _, rfl, .inl (SqL.of g2), fun l hl => ?_⟩
    have s3 := same_new hl (.lst (ms.map V.int))
    have g3 : upd H3 l (.lst (ms.map V.int)) l = _ := upd_same
    generalize upd H3 l (.lst (ms.map V.int)) = H4 at s3 g3
    refine ⟨_, rfl, (by show 5 ≤ sizeLine; decide), fun b hb => ?_⟩
    have s04 := s1.trans (s2.trans s3)
    refine q b l _ (s04.free hb) (by rw [del_upd]; exact same_del s04 (s04.free hb)) ⟨ms, 0, 0, mix, 0, upd_same, ?_, by decide, by decide, h0, h1⟩
    rw [del_upd, del_ne (ne_of_none g3 hb)]; exact g3
/-! ### _law_pull -/
abbrev nPull : List Str := ["_law_bag_here", "_law_size", "_law_cell", "_law_mix", "_law_found"]
def spPull : Sp := fun vs H Q _ => ∃ (b sa : Addr) (sz : Int), vs = [.ref b, .int sz] ∧ BagAt H b sa ∧ 0 < sz ∧ sz < 1073741824 ∧ ∀ (r : Int) H', 0 ≤ r → r < sz → Same (del b H) (del b H') → BagAt H' b sa → Q (.int r) H'
theorem sc_pull : FnScope nPull ["_law_bag_here", "_law_size"] (C8.fnScope sPull) := C8.fnScope_by (by decide +kernel)
abbrev bagL (sa : Addr) (i held mix cnt : Int) : HO := .lst [.ref sa, .int i, .int held, .int mix, .int cnt]
theorem ok_pull (h : Has K mg "_law_pull" sPull ["_law_bag_here", "_law_size"]) (B : Bl mg) : C8.Cal P w K mg base 1 "_law_pull" spPull [] := by
  refine cal_of h sc_pull (fun vs H Q E z => ?_) (fun f cdv A outer s H vs Q E hr z => ?_)
  · obtain ⟨b, sa, sz, rfl, _⟩ := z; rfl
  obtain ⟨b, sa, sz, rfl, ⟨ns, i, held, mix, cnt, hb, hsa, hi, hh, hm0, hm1⟩, z0, z1, q⟩ := z
  have nd := sc_pull.nd
  obtain ⟨hsa1, nsa⟩ := of_del hsa
  have ix := fun (k : Int) => k
  refine ⟨_, pss_cons (ps_asg (pe_op op_add (pe_ix ix_list (pv 0) pe_int (fun _ _ => rfl)) pe_int) (pg_sub (pv 0) pe_int set_list))
    (C8.pss_cut (ps_if (PW.pt (pw_and (pt_cmpR op_eq (pe_ix ix_list (pv 0) pe_int (fun _ _ => rfl)) pe_int (nomark _)) (pw_and1 (pt_cmpR op_lt (pe_ix ix_list (pv 0) pe_int (fun _ _ => rfl)) (pe_callB call_len_seq (by rfl) B.len bt_len (pa_cons (pe_ix ix_list (pv 0) pe_int (fun _ _ => rfl)) pa_nil)) (nomark _)))))
      (pss_cons (ps_set (i := 2) nd rfl (.inl rfl) (pe_ix ix_list (pe_ix ix_list (pv 0) pe_int (fun _ _ => rfl)) (pe_ix ix_list (pv 0) pe_int (fun _ _ => rfl)) (fun _ _ => rfl)))
      (pss_cons (ps_asg (pe_op op_add (pe_ix ix_list (pv 0) pe_int (fun _ _ => rfl)) pe_int) (pg_sub (pv 0) pe_int set_list))
      (pss_one (ps_if (pt_cmpR op_ge (pv 2) (pe_op op_pow pe_int pe_int) (nomark _))
        (pss_one (ps_asg (pv 2) (pg_sub (pv 0) pe_int set_list)))
        (pss_cons (ps_set (i := 3) nd rfl (.inl rfl) (pe_op op_add (pe_op op_mul (pe_ix ix_list (pv 0) pe_int (fun _ _ => rfl)) pe_int) (pe_op op_mul (pe_op op_mod (pv 2) pe_int) pe_int)))
        (pss_one (ps_asg (pe_op op_mod (pe_op op_add (pv 3) pe_int) pe_int) (pg_sub (pv 0) pe_int set_list)))))))) pss_nil)
    (pss_cons (ps_if (pt_cmpR op_gt (pe_ix ix_list (pv 0) pe_int (fun _ _ => rfl)) pe_int (nomark _))
      (pss_cons (ps_set (i := 4) nd rfl (.inl rfl) (pe_op op_mod (pe_ix ix_list (pv 0) pe_int (fun _ _ => rfl)) (pv 1)))
      (pss_cons (ps_asg (pe_op op_fdiv (pe_ix ix_list (pv 0) pe_int (fun _ _ => rfl)) (pv 1)) (pg_sub (pv 0) pe_int set_list))
      (pss_one (ps_ret (pv 4))))) pss_nil)
    (pss_cons (ps_set (i := 3) nd rfl (.inl rfl) (pe_op op_add (pe_op op_mul (pe_op op_mul (pe_ix ix_list (pv 0) pe_int (fun _ _ => rfl)) (pe_ix ix_list (pv 0) pe_int (fun _ _ => rfl))) pe_int) (pe_op op_mul (pe_ix ix_list (pv 0) pe_int (fun _ _ => rfl)) pe_int)))
    (pss_cons (ps_asg (pe_op op_mod (pe_op op_add (pv 3) (pe_op op_mul pe_int (pe_ix ix_list (pv 0) pe_int (fun _ _ => rfl)))) pe_int) (pg_sub (pv 0) pe_int set_list))
    (pss_one (ps_ret (pe_op op_mod (pe_op op_fdiv (pe_ix ix_list (pv 0) pe_int (fun _ _ => rfl)) pe_int) (pv 1)))))))), ?_⟩
  -- an end
  have fin : ∀ (i' held' mix' cnt' r : Int), 0 ≤ i' → 0 ≤ held' → 0 ≤ mix' → mix' < 2147483629 → 0 ≤ r → r < sz → Q (.int r) (upd H b (bagL sa i' held' mix' cnt')) := fun i' held' mix' cnt' r a1 a2 a3 a4 a5 a6 =>
    q r _ a5 a6 (by rw [del_upd]; exact Same.refl _) ⟨ns, i', held', mix', cnt', upd_same, by rw [del_upd]; exact hsa, a1, a2, a3, a4⟩
  have get : ∀ {i' held' mix' cnt' : Int}, SqL K (upd H b (bagL sa i' held' mix' cnt')) b [.ref sa, .int i', .int held', .int mix', .int cnt'] := fun {_ _ _ _} => SqL.of upd_same
  refine ⟨_, rfl, b, _, _, _, rfl, rfl, SqL.of hb, rfl, _, _, rfl, rfl, _, rfl, b, _, _, 4, rfl, rfl, hb, rfl, ?_⟩
  show C8.tCut _ _ _ _ (upd H b (bagL sa i held mix (cnt + 1)))
  refine ⟨fun σ H' => ∃ i' held' mix' cnt' x2 x3 x4, 0 ≤ i' ∧ 0 ≤ held' ∧ 0 ≤ mix' ∧ mix' < 2147483629 ∧ H' = upd H b (bagL sa i' held' mix' cnt') ∧ σ = [some (.ref b), some (.int sz), x2, x3, x4], ?_, ?_⟩
  · refine ⟨_, rfl, b, _, _, _, rfl, rfl, get, rfl, rfl, _, rfl, ?_⟩
    by_cases c : V.int held = V.int 0
    · rw [decide_eq_true c]
      refine iteT ⟨_, rfl, b, _, _, _, rfl, rfl, get, rfl, _, rfl, b, _, _, _, rfl, rfl, get, rfl, sa, _, rfl, .inl (SqL.of (by rw [upd_ne nsa]; exact hsa1)), _, _, rfl, rfl, _, rfl, ?_⟩
      rw [List.length_map]
      by_cases c2 : i < (ns.length : Nat)
      · rw [decide_eq_true c2]
        have hin : i.toNat < ns.length := by omega
        refine iteT ⟨_, rfl, b, _, _, _, rfl, rfl, get, rfl, _, rfl, b, _, _, _, rfl, rfl, get, rfl, sa, _, _, V.int ns[i.toNat], rfl, rfl, SqL.of (by rw [upd_ne nsa]; exact hsa1), at_of (j := i.toNat) (by omega) (by rw [List.getElem?_map, List.getElem?_eq_getElem hin]; rfl), ?_⟩
        refine ⟨_, rfl, b, _, _, _, rfl, rfl, get, rfl, _, _, rfl, rfl, _, rfl, b, _, _, 1, rfl, rfl, upd_same, rfl, ?_⟩
        rw [upd_upd]
        refine ⟨_, rfl, _, _, rfl, rfl, ⟨by decide, by decide, by decide⟩, _, _, rfl, rfl, _, rfl, ?_⟩
        refine ite2 (fun c3 => ?_) (fun c3 => ?_)
        · have c3 : ns[i.toNat] ≥ 10 ^ (18 : Int).toNat := of_decide_eq_true c3
          have c4 : (0 : Int) ≤ ns[i.toNat] := by
            have : (0 : Int) ≤ 10 ^ (18 : Int).toNat := by decide
            omega
          refine ⟨_, rfl, _, rfl, b, _, _, 2, rfl, rfl, upd_same, rfl, ?_⟩
          exact ⟨i + 1, ns[i.toNat], mix, cnt + 1, _, _, _, by omega, c4, hm0, hm1, by rw [upd_upd]; rfl, rfl⟩
        · refine ⟨_, rfl, b, _, _, _, rfl, rfl, get, rfl, _, _, rfl, rfl, .inl ⟨by omega, by omega⟩, _, rfl, _, _, rfl, rfl, (by show (0 : Int) < 2147483629; decide), _, _, rfl, rfl, ?_, _, _, rfl, rfl, ?_⟩
          · have e1 := Int.emod_nonneg ns[i.toNat] (show (2147483629 : Int) ≠ 0 by decide)
            have e2 := Int.emod_lt_of_pos ns[i.toNat] (show (0 : Int) < 2147483629 by decide)
            exact .inl ⟨by omega, by omega⟩
          · refine ⟨_, rfl, _, _, rfl, rfl, _, _, rfl, rfl, (by show (0 : Int) < 2147483629; decide), _, rfl, b, _, _, 3, rfl, rfl, upd_same, rfl, ?_⟩
            refine ⟨i + 1, held, _, cnt + 1, _, _, _, by omega, hh, ?_, ?_, by rw [upd_upd]; rfl, rfl⟩
            · exact Int.emod_nonneg _ (by decide)
            · exact Int.emod_lt_of_pos _ (by decide)
      · rw [decide_eq_false c2]
        exact iteF ⟨i, held, mix, cnt + 1, _, _, _, hi, hh, hm0, hm1, rfl, rfl⟩
    · rw [decide_eq_false c]
      exact iteF ⟨i, held, mix, cnt + 1, _, _, _, hi, hh, hm0, hm1, rfl, rfl⟩
  · rintro σ H' ⟨i', held', mix', cnt', x2, x3, x4, a1, a2, a3, a4, rfl, rfl⟩
    refine ⟨_, rfl, b, _, _, _, rfl, rfl, get, rfl, _, _, rfl, rfl, _, rfl, ?_⟩
    by_cases c : (0 : Int) < held'
    · rw [decide_eq_true c]
      refine iteT ⟨_, rfl, b, _, _, _, rfl, rfl, get, rfl, _, rfl, _, _, rfl, rfl, z0, ?_⟩
      refine ⟨_, rfl, b, _, _, _, rfl, rfl, get, rfl, _, rfl, _, _, rfl, rfl, ⟨z0, z1⟩, _, rfl, b, _, _, 2, rfl, rfl, upd_same, rfl, _, rfl, ?_⟩
      rw [upd_upd]
      exact fin i' (held' / sz) mix' cnt' _ a1 (Int.ediv_nonneg a2 (by omega)) a3 a4 (Int.emod_nonneg _ (by omega)) (Int.emod_lt_of_pos _ z0)
    · rw [decide_eq_false c]
      have e1 : mix' * mix' < 2 ^ 64 := by
        have z1 : mix' * mix' ≤ 2147483629 * 2147483629 := Int.mul_le_mul (by omega) (by omega) a3 (by decide)
        have z2 : (2147483629 * 2147483629 : Int) < 2 ^ 64 := by decide
        omega
      have e0 : 0 ≤ mix' * mix' := Int.mul_nonneg a3 a3
      refine iteF ⟨_, rfl, b, _, _, _, rfl, rfl, get, rfl, _, rfl, b, _, _, _, rfl, rfl, get, rfl, _, _, rfl, rfl, .inl ⟨by omega, by omega⟩, _, _, rfl, rfl, .inl ⟨by omega, e1⟩, _, rfl, b, _, _, _, rfl, rfl, get, rfl, _, _, rfl, rfl, .inl ⟨by omega, by omega⟩, _, _, rfl, rfl, ?_⟩
      refine ⟨_, rfl, _, rfl, b, _, _, _, rfl, rfl, get, rfl, _, _, rfl, rfl, .inl ⟨by decide, by decide⟩, _, _, rfl, rfl, _, _, rfl, rfl, (by show (0 : Int) < 2147483629; decide), _, rfl, b, _, _, 3, rfl, rfl, upd_same, rfl, ?_⟩
      rw [upd_upd]
      exact ⟨_, rfl, b, _, _, _, rfl, rfl, get, rfl, _, _, rfl, rfl, ⟨by decide, by decide⟩, _, rfl, _, _, rfl, rfl, z0, fin i' held' _ cnt' _ a1 a2 (Int.emod_nonneg _ (by decide)) (Int.emod_lt_of_pos _ (by decide)) (Int.emod_nonneg _ (by omega)) (Int.emod_lt_of_pos _ z0)⟩
end
end L2.FK
namespace L2.FK
open PySem PySem.Spec PyProof.Rows L2.FL
section
variable {P : Program} {w : World} {K : PySem.W.Frag} {mg : Str → Option Value} {base : Heap}
/-! ### trimmed -/
def spTr : Sp := fun vs H Q _ => ∃ (l d : Int) (v : V) (row : List Pl), vs = [.int l, .int d, v] ∧ RowAt H v row ∧ ∀ b H', H b = none → Same H H' → RowAt H' (.ref b) (trimRow l d row) → Q (.ref b) H'
theorem sc_tr : FnScope ["lane", "drift", "row", "bound"] ["lane", "drift", "row"] (C8.fnScope sTrimmed) := C8.fnScope_by (by decide +kernel)
theorem ok_trimmed (h : Has K mg "trimmed" sTrimmed ["lane", "drift", "row"]) (B : Bl mg) : C8.Cal P w K mg base 1 "trimmed" spTr [] := by
  refine cal_of h sc_tr (fun vs H Q E z => ?_) (fun f cdv A outer s H vs Q E hr z => ?_)
  · obtain ⟨l, d, v, row, rfl, _⟩ := z; rfl
  obtain ⟨l, d, v, row, rfl, ⟨a, us, rfl, ha, hp⟩, q⟩ := z
  have hl := paired_len hp
  have nd := sc_tr.nd
  refine ⟨_, pss_cons (ps_set (i := 3) nd rfl (.inl rfl) (pe_callB call_len_seq (by rfl) B.len bt_len (pa_cons (pv 2) pa_nil)))
    (pss_cons (ps_while PassesOwn.never (PW.pt (pw_and (pt_cmpR op_gt (pv 3) pe_int (nomark _)) (pw_and1 (pt_cmpR (op_eqD hr.units) (pe_ix ix_list (pv 2) (pe_op op_sub (pv 3) pe_int) (fun _ _ => rfl))
        (pe_tup (pa_cons (pv 0) (pa_cons (pe_op op_add (pe_op op_sub (pv 3) pe_int) (pv 1)) pa_nil))) (nomark _)))))
      (pss_one (ps_aug (i := 3) nd rfl (.inl rfl) pe_int ip_sub)))
    (pss_one (ps_ret (pe_slice sl_list (pv 2) po_none (po_some (pv 3)))))), ?_⟩
  refine ⟨_, rfl, a, us, rfl, .inl (SqL.of ha), ?_⟩
  refine ⟨fun m σ H' => Same H H' ∧ m ≤ row.length ∧ trimLen l d row row.length = trimLen l d row m ∧ σ = [some (.int l), some (.int d), some (.ref a), some (.int (m : Nat))], ⟨row.length, Same.refl _, Nat.le_refl _, rfl, by rw [hl]; rfl⟩, ?_⟩
  rintro m σ H1 ⟨s1, hm, ht, rfl⟩
  have fin : ∀ H2, Same H H2 → trimLen l d row row.length = m → tRet (tSl (rSlL K) (tVar 2) tNoPart (tPart (tVar 3))) { nx := fun x H' => Q V.non H', rt := Q } [some (V.int l), some (V.int d), some (V.ref a), some (V.int (m : Nat))] H2 := fun H2 s2 e => by
    refine ⟨_, rfl, _, rfl, _, rfl, a, us, rfl, SqL.of (s2 _ _ ha), fun p hp' => ?_⟩
    refine q _ _ (s2.free hp') (s2.trans (same_new hp' _)) ⟨p, _, rfl, upd_same, ?_⟩
    rw [cutV_to us m (by rw [hl]; exact hm)]
    unfold trimRow
    rw [e]
    exact paired_take m (pls_mono (s2.trans (same_new hp' _)) hp)
  refine ⟨_, rfl, _, _, rfl, rfl, _, rfl, ?_⟩
  cases m with
  | zero => exact iteF (fin H1 s1 ht)
  | succ k =>
    rw [decide_eq_true (show (0 : Int) < ((k + 1 : Nat) : Int) by omega)]
    have hk : k < us.length := by rw [hl]; exact hm
    obtain ⟨p, hpk, hpp⟩ := paired_get hp k (List.getElem?_eq_getElem hk)
    refine iteT ⟨_, rfl, _, rfl, _, _, rfl, rfl, a, us, _, _, rfl, rfl, SqL.of (s1 _ _ ha), at_of (show ((k + 1 : Nat) : Int) - 1 = (k : Nat) by omega) (List.getElem?_eq_getElem hk), ?_⟩
    refine ⟨_, rfl, _, rfl, _, _, rfl, rfl, _, rfl, _, _, rfl, rfl, (by show 2 ≤ sizeLine; decide), fun t ht' => ?_⟩
    have s2 := s1.trans (same_new ht' (.tup [.int l, .int (((k + 1 : Nat) : Int) - 1 + d)]))
    refine ⟨_, _, dp_pl (hpp.mono s2), dp_pl (p := (l, ((k + 1 : Nat) : Int) - 1 + d)) ⟨t, rfl, upd_same⟩, shaped_pl _, shaped_pl _, _, rfl, ?_⟩
    rw [eqv_pl]
    have e1 : ((k + 1 : Nat) : Int) - 1 + d = (k : Int) + d := by omega
    rw [e1]
    by_cases c : p = (l, (k : Int) + d)
    · rw [decide_eq_true c]
      refine iteT ⟨fun σ' H' => Same H H' ∧ σ' = [some (.int l), some (.int d), some (.ref a), some (.int (k : Nat))], ?_, ?_⟩
      · rintro σ' H' ⟨s3, rfl⟩
        refine ⟨k, Nat.lt_succ_self _, s3, Nat.le_of_succ_le hm, ?_, rfl⟩
        rw [ht]
        show (if row[k]? = some (l, (k : Int) + d) then _ else _) = _
        rw [if_pos (by rw [hpk, c])]
      · refine ⟨_, rfl, _, _, rfl, rfl, s2, ?_⟩
        show [some (V.int l), some (V.int d), some (V.ref a), some (V.int (((k + 1 : Nat) : Int) - 1))] = _
        rw [show ((k + 1 : Nat) : Int) - 1 = (k : Int) by omega]
    · rw [decide_eq_false c]
      refine iteF (fin _ s2 ?_)
      rw [ht]
      show (if row[k]? = some (l, (k : Int) + d) then _ else _) = _
      rw [if_neg (by rw [hpk]; intro z; exact c (Option.some.inj z))]
/-! ### first_wrong -/
def spFW : Sp := fun vs H Q _ => ∃ (d : Addr) (st : Int) (kvs : List (Key × V)), vs = [.ref d, .int st] ∧ H d = some (.dK kvs) ∧ 0 ≤ st ∧ (∀ a : Int, 0 ≤ a → a < st → valV kvs (Sum.inl a) = some (.int 1)) ∧
  (∀ kv ∈ kvs, ∃ a : Int, kv.1 = Sum.inl a ∧ a < st) ∧ ∀ H', Same H H' → Q .non H'
theorem sc_fw : FnScope ["counts", "start", "at", "twice"] ["counts", "start"] (C8.fnScope sWrong) := C8.fnScope_by (by decide +kernel)
theorem ok_wrong (h : Has K mg "first_wrong" sWrong ["counts", "start"]) (B : Bl mg) : C8.Cal P w K mg base 1 "first_wrong" spFW [] := by
  refine cal_of h sc_fw (fun vs H Q E z => ?_) (fun f cdv A outer s H vs Q E hr z => ?_)
  · obtain ⟨d, st, kvs, rfl, _⟩ := z; rfl
  obtain ⟨d, st, kvs, rfl, hd, h0, hone, hkey, q⟩ := z
  have nd := sc_fw.nd
  have hu := hu_of hr
  refine ⟨_, pss_cons (ps_set (i := 2) nd rfl (.inl rfl) pe_int)
    (pss_cons (ps_while PassesOwn.never (PW.pt (pw_and (pt_cmpR op_lt (pv 2) (pv 1) (nomark _)) (pw_and1 (pt_cmpR op_eq (pe_dget2 hu (pv 0) (pv 2) pe_int ⟨rfl, rfl, rfl, rfl⟩) pe_int (nomark _)))))
      (pss_one (ps_aug (i := 2) nd rfl (.inl rfl) pe_int ip_add)))
    (pss_cons (ps_if (pt_cmpR op_lt (pv 2) (pv 1) (nomark _)) (pss_one ps_never) pss_nil)
    (pss_one (ps_ret (pe_callBK (cr_minD rfl hu) (by rfl) B.min bt_min (pa_cons
      (pe_lock (pe_lc (own := [("twice", 3)]) (g := gName 3) rfl nd (pi_keys (pv 0)) (blkOk_by (own := [("twice", 3)]) (N := ["counts", "start", "at", "twice"]) (sc := C8.fnScope sWrong) (by decide +kernel))
        (fun _ _ _ _ _ => pg_name (i := 3) nd rfl (Or.inl rfl)) (fun _ _ _ _ _ => pts_one (pt_cmpR op_ge (pv 3) (pv 1) (nomark _))) (fun _ _ _ _ _ => pv 3))) pa_nil) (pk_cons pe_non pk_nil)))))), ?_⟩
  refine ⟨fun m σ H' => H' = H ∧ ∃ (at' : Int) (x : Option V), 0 ≤ at' ∧ at' ≤ st ∧ m = (st - at').toNat ∧ σ = [some (.ref d), some (.int st), some (.int at'), x], ⟨st.toNat, rfl, 0, _, Int.le_refl _, h0, by omega, rfl⟩, ?_⟩
  rintro m σ H1 ⟨rfl, at', x, h1, h2, rfl, rfl⟩
  refine ⟨_, rfl, _, rfl, _, _, rfl, rfl, _, rfl, ?_⟩
  by_cases c : at' < st
  · rw [decide_eq_true c]
    refine iteT ⟨_, rfl, d, rfl, .inl ⟨kvs, .inl hd⟩, _, rfl, _, DGet.k (k := Sum.inl at') hd, (by rw [hone at' h1 c]; rfl), _, rfl, ?_⟩
    rw [hone at' h1 c]
    refine iteT ⟨fun σ' H' => H' = H1 ∧ ∃ x, σ' = [some (.ref d), some (.int st), some (.int (at' + 1)), x], ?_, ?_⟩
    · rintro σ' H' ⟨rfl, x, rfl⟩
      exact ⟨_, by omega, rfl, at' + 1, x, by omega, by omega, rfl, rfl⟩
    · exact ⟨_, rfl, _, _, rfl, rfl, rfl, _, rfl⟩
  · rw [decide_eq_false c]
    refine iteF ⟨_, rfl, _, rfl, _, _, rfl, rfl, _, rfl, ?_⟩
    rw [decide_eq_false c]
    refine iteF ⟨d, _, hd, trivial, fun od => ?_⟩
    refine ⟨_, rfl, d, od, rfl, .inl ⟨kvs, upd_same, fun D hD => ?_⟩⟩
    refine lc_it (walk_keys (d := d) (o := od) (kvs := kvs)) (fun i H' => H' = upd (upd H1 d (.frz od (.dK kvs))) D (.lst [])) rfl ?_ ?_ ?_
    · rintro i H' _ rfl
      have nD : d ≠ D := fun e => by subst e; rw [upd_same] at hD; cases hD
      rw [upd_ne nD, upd_same]
    · rintro i x' H2 H3 hi rfl ⟨rfl, k, v, hk, rfl⟩
      obtain ⟨a, ea, hlt⟩ := hkey _ (List.mem_of_getElem? hk)
      have ea : k = Sum.inl a := ea
      subst ea
      refine ⟨rfl, _, rfl, _, rfl, _, _, rfl, rfl, _, rfl, ?_⟩
      rw [decide_eq_false (show ¬ a ≥ st by omega)]
      exact iteF rfl
    · rintro H2 rfl
      have nD : d ≠ D := fun e => by subst e; rw [upd_same] at hD; cases hD
      have hD' : H1 D = none := by rw [upd_ne nD.symm] at hD; exact hD
      refine ⟨by rw [upd_ne nD, upd_same], D, [], .non, rfl, rfl, ?_, fun _ => q _ ?_, fun m hm => nomatch hm⟩
      · exact SqL.of (by rw [upd_ne nD.symm, upd_same]; rfl)
      · intro b o hb
        by_cases e : b = d
        · subst e; rw [upd_same]; exact hd ▸ hb
        · rw [upd_ne e, upd_ne (ne_of_none hb hD'), upd_ne e]; exact hb
/-! ### check_bijective -/
def spCB (K : PySem.W.Frag) : Sp := fun vs H Q _ => ∃ (a : Addr) (v : V) (ds : List Int) (rows : List (List Pl)), vs = [.ref a, v] ∧ SqL K H a (ds.map V.int) ∧ RowsAt H v rows ∧ Okm ds rows ∧ ∀ H', Same H H' → Q .non H'
theorem sc_cb : FnScope ["drifts", "rows", "reached", "row", "lane", "at", "counts", "wrong"] ["drifts", "rows"] (C8.fnScope sBijective) := C8.fnScope_by (by decide +kernel)
/-- the dicts at ad behind the goals G -/
def Cnts (H' : Hp) (ad : List Addr) (G : List Pl) : Prop := ∀ (l : Nat) d, ad[l]? = some d → ∃ kvs, H' d = some (.dK kvs) ∧ Cnt kvs l G
theorem ok_bijective (h : Has K mg "check_bijective" sBijective ["drifts", "rows"]) (B : Bl mg) (c : C8.Cal P w K mg base 1 "first_wrong" spFW []) : C8.Cal P w K mg base 2 "check_bijective" (spCB K) [] := by
  refine cal_of h sc_cb (fun vs H Q E z => ?_) (fun f cdv A outer s H vs Q E hr z => ?_)
  · obtain ⟨a, v, ds, rows, rfl, _⟩ := z; rfl
  obtain ⟨a, v, ds, rows, rfl, hA, ⟨b, ws, rfl, hb, hp⟩, ok, q⟩ := z
  have hl := paired_len hp
  have nd := sc_cb.nd
  have hu := hu_of hr
  have hn6 : rows.length ≤ 6 := ok.len ▸ ok.hi
  refine ⟨_, pss_cons (ps_setLc (i := 2) (own := [("row", 3)]) (g := gName 3) (tt := tYes) rfl nd rfl rfl (sw_true rfl rfl rfl (by decide +kernel)) (pi_list (pv 1))
      (blkOk_by (own := [("row", 3)]) (N := ["drifts", "rows", "reached", "row", "lane", "at", "counts", "wrong"]) (sc := C8.fnScope sBijective) (by decide +kernel))
      (fun _ _ _ _ _ => pg_name (i := 3) nd rfl (Or.inl rfl)) (fun _ _ _ _ _ => pts_nil) (fun _ _ _ _ _ => pe_dnewK))
    (pss_cons (ps_for PassesOwn.never rfl (pi_list (pv 1)) (pg_name (i := 3) nd rfl (.inl rfl))
      (pss_one (ps_for PassesOwn.never rfl (pi_list (pv 3)) (pg_tup rfl (pgs_cons (pg_name (i := 4) nd rfl (.inl rfl)) (pgs_cons (pg_name (i := 5) nd rfl (.inl rfl)) pgs_nil)))
        (pss_cons (ps_set (i := 6) nd rfl (.inl rfl) (pe_ix ix_list (pv 2) (pv 4) (fun _ _ => rfl)))
        (pss_one (ps_dput hu (pv 6) (pv 5) (pe_op op_add (pe_dget2 hu (pv 6) (pv 5) pe_int ⟨rfl, rfl, rfl, rfl⟩) pe_int) rfl))))))
    (pss_one (ps_for PassesOwn.never rfl (pi_enum rfl B.enumerate (pa_cons (pv 1) pa_nil)) (pg_tup rfl (pgs_cons (pg_name (i := 4) nd rfl (.inl rfl)) (pgs_cons (pg_name (i := 3) nd rfl (.inl rfl)) pgs_nil)))
      (pss_cons (ps_set (i := 7) nd rfl (.inl rfl) (C8.pe_c c hr (by decide) rfl (pa_cons (pe_ix ix_list (pv 2) (pv 4) (fun _ _ => rfl))
        (pa_cons (pe_op op_add (pe_callB call_len_seq (by rfl) B.len bt_len (pa_cons (pv 3) pa_nil)) (pe_ix ix_list (pv 0) (pv 4) (fun _ _ => rfl))) pa_nil))))
      (pss_one (ps_if (pt_cmpR op_notN (pv 7) pe_non (nomark _)) (pss_one ps_never) pss_nil)))))), ?_⟩
  -- the dicts
  refine ⟨_, rfl, b, rfl, ⟨_, SqL.of hb⟩, fun R hR => ?_⟩
  refine lc_it (walk_list (K := K) (a := b) (xs := ws)) (fun i H' => Same H (del R H') ∧ ∃ ad : List Addr, ad.length = i ∧ ad.Nodup ∧ (∀ d ∈ ad, H d = none ∧ d ≠ R ∧ H' d = some (.dK [])) ∧ H' R = some (.lst (ad.map V.ref))) ?_ ?_ ?_ ?_
  · exact ⟨by rw [del_upd]; exact same_del (Same.refl _) hR, [], rfl, List.nodup_nil, (fun d hd => by cases hd), upd_same⟩
  · rintro i H' _ ⟨s', _⟩; exact SqL.of (del_same _ _ (s' _ _ hb))
  · rintro i x H1 H2 hi ⟨s', ad, ha, hnd, had, hR'⟩ ⟨rfl, hx⟩
    refine ⟨rfl, fun p hp' => ⟨_, by rw [upd_ne (ne_of_none hR' hp')]; exact hR', snoc_le (by rw [List.length_map]; omega), ?_⟩⟩
    have nR : p ≠ R := (ne_of_none hR' hp').symm
    have hpH : H p = none := by
      cases e : H p with
      | none => rfl
      | some o => have := del_same _ _ (s' _ _ e); rw [hp'] at this; cases this
    refine ⟨by rw [del_upd, del_upd_ne nR]; exact s'.trans (same_new (none_del hp') _), ad ++ [p], by rw [List.length_append, ha]; rfl, ?_, ?_, by rw [upd_same, List.map_append]; rfl⟩
    · refine List.nodup_append.mpr ⟨hnd, by simp, fun x hx y hy => ?_⟩
      rw [List.mem_singleton.mp hy]
      exact fun e => by have := (had x hx).2.2; rw [e, hp'] at this; cases this
    · intro d hd
      rcases List.mem_append.mp hd with hd | hd
      · obtain ⟨z1, z2, z3⟩ := had d hd
        exact ⟨z1, z2, by rw [upd_ne z2, upd_ne (ne_of_none z3 hp')]; exact z3⟩
      · rw [List.mem_singleton.mp hd]
        exact ⟨hpH, nR, by rw [upd_ne nR, upd_same]⟩
  rintro H1 ⟨s1, ad, hal, hnd, had, hR1⟩
  have s1 : Same H H1 := s1.trans del_same
  have hadn : ∀ d ∈ ad, H d = none ∧ d ≠ R := fun d hd => ⟨(had d hd).1, (had d hd).2.1⟩
  have hal : ad.length = rows.length := hal.trans hl
  -- a count
  have bump : ∀ (H2 : Hp) (G : List Pl) (l a' : Int) (d : Addr) (kvs : List (Key × V)), Same H H2 → H2 R = some (.lst (ad.map V.ref)) → Cnts H2 ad G → 0 ≤ l → ad[l.toNat]? = some d → H2 d = some (.dK kvs) →
      Same H (upd H2 d (.dK (putK kvs (Sum.inl a') (.int ((G.count (l, a') : Nat) + 1))))) ∧ (upd H2 d (.dK (putK kvs (Sum.inl a') (.int ((G.count (l, a') : Nat) + 1))))) R = some (.lst (ad.map V.ref)) ∧
      Cnts (upd H2 d (.dK (putK kvs (Sum.inl a') (.int ((G.count (l, a') : Nat) + 1))))) ad (G ++ [(l, a')]) := fun H2 G l a' d kvs s2 hR2 hc h0 hd hk => by
    have hm := List.mem_of_getElem? hd
    refine ⟨same_put s2 (hadn d hm).1 _, by rw [upd_ne (hadn d hm).2.symm]; exact hR2, fun l2 d2 e2 => ?_⟩
    have el : ((l.toNat : Nat) : Int) = l := by omega
    by_cases e : l2 = l.toNat
    · subst e
      rw [hd] at e2; cases e2
      obtain ⟨kvs', hk', hc'⟩ := hc _ _ hd
      rw [hk] at hk'; cases hk'
      rw [el] at hc' ⊢
      exact ⟨_, upd_same, hc'.put⟩
    · have nd2 : d2 ≠ d := fun z => by
        subst z
        exact e (nd_ix hnd e2 hd)
      obtain ⟨kvs', hk', hc'⟩ := hc _ _ e2
      exact ⟨kvs', by rw [upd_ne nd2]; exact hk', hc'.other (by omega)⟩
  -- for row in rows
  refine ⟨_, rfl, b, rfl, ⟨_, SqL.of (s1 _ _ hb)⟩, for_it (walk_list (K := K) (a := b) (xs := ws)) (fun i σ H' => Same H H' ∧ H' R = some (.lst (ad.map V.ref)) ∧ Cnts H' ad (rows.take i).flatten ∧ ∃ x3 x4 x5 x6 x7, σ = [some (.ref a), some (.ref b), some (.ref R), x3, x4, x5, x6, x7])
    ⟨s1, hR1, fun l d e => ⟨[], (had d (List.mem_of_getElem? e)).2.2, Cnt.nil _⟩, _, _, _, _, _, rfl⟩ ?_ ?_ ?_⟩
  · rintro i σ H' _ ⟨s', _⟩; exact SqL.of (s' _ _ hb)
  · rintro i x σ H2 H3 hi ⟨s2, hR2, hc2, x3, x4, x5, x6, x7, rfl⟩ ⟨rfl, hx⟩
    obtain ⟨row, hrow, r, us, rfl, hr', hus⟩ := paired_get hp i hx
    refine ⟨_, rfl, r, rfl, ⟨_, SqL.of (s2 _ _ hr')⟩, for_it (walk_list (K := K) (a := r) (xs := us)) (fun j σ H' => Same H H' ∧ H' R = some (.lst (ad.map V.ref)) ∧ Cnts H' ad ((rows.take i).flatten ++ row.take j) ∧ ∃ x4 x5 x6 x7, σ = [some (.ref a), some (.ref b), some (.ref R), some (.ref r), x4, x5, x6, x7])
      ⟨s2, hR2, by rw [List.take_zero, List.append_nil]; exact hc2, _, _, _, _, rfl⟩ ?_ ?_ ?_⟩
    · rintro j σ H' _ ⟨s', _⟩; exact SqL.of (s' _ _ hr')
    · rintro j x σ H4 H5 hj ⟨s4, hR4, hc4, x4, x5, x6, x7, rfl⟩ ⟨rfl, hx'⟩
      obtain ⟨⟨l, a'⟩, hpp, t, rfl, ht⟩ := paired_get hus j hx'
      have hpl := ok.pl (Okm.in_row (ds := ds) hrow hpp)
      have h0 : 0 ≤ l := hpl.1
      have h1 : l < (ds.length : Nat) := hpl.2.1
      have hli : l.toNat < ad.length := by rw [hal, ok.len]; omega
      obtain ⟨kvs, hk, hcn⟩ := hc4 _ _ (List.getElem?_eq_getElem hli)
      have el : ((l.toNat : Nat) : Int) = l := by omega
      rw [el] at hcn
      have hlen : kvs.length < sizeLine := by
        have z1 := hcn.len
        have z2 := len_take_flatten rows i
        have z3 := ok.wid
        have z4 : row.length ≤ rows.flatten.length := by
          have := len_take_flatten rows (i + 1)
          rw [flatten_take hrow, List.length_append] at this; omega
        rw [List.length_append, List.length_take] at z1
        exact snoc_le (by omega)
      refine ⟨t, _, rfl, .inl (.inl (s4 _ _ ht)), rfl, _, _, rfl, _, _, rfl, rfl, ?_⟩
      refine ⟨_, rfl, _, rfl, R, _, _, _, rfl, rfl, SqL.of hR4, at_of (j := l.toNat) el.symm (by rw [List.getElem?_map, List.getElem?_eq_getElem hli]; rfl), ?_⟩
      refine ⟨_, rfl, ad[l.toNat], rfl, .inl ⟨kvs, .inl hk⟩, _, rfl, _, DGet.k (k := Sum.inl a') hk, _, _, hcn.get a', rfl, _, rfl, _, rfl, _, _, rfl, DPut.k (k := Sum.inl a') hk hlen, ?_⟩
      obtain ⟨z1, z2, z3⟩ := bump _ _ l a' _ kvs s4 hR4 hc4 h0 (List.getElem?_eq_getElem hli) hk
      refine ⟨z1, z2, ?_, _, _, _, _, rfl⟩
      rw [take_snoc hpp, ← List.append_assoc]
      exact z3
    · rintro σ H4 ⟨s4, hR4, hc4, x4, x5, x6, x7, rfl⟩
      rw [paired_len hus, List.take_length, ← flatten_take hrow] at hc4
      exact ⟨s4, hR4, hc4, _, _, _, _, _, rfl⟩
  -- for lane, row in enumerate(rows)
  rintro σ H2 ⟨s2, hR2, hc2, x3, x4, x5, x6, x7, rfl⟩
  rw [hl, List.take_length] at hc2
  refine ⟨_, rfl, b, _, rfl, SqL.of (s2 _ _ hb), for_it (walk_enum (K := K) (a := b) (xs := ws)) (fun i σ H' => Same H2 H' ∧ ∃ x3 x4 x5 x6 x7, σ = [some (.ref a), some (.ref b), some (.ref R), x3, x4, x5, x6, x7]) ⟨Same.refl _, _, _, _, _, _, rfl⟩ ?_ ?_ ?_⟩
  · rintro i σ H' _ ⟨s', _⟩; exact SqL.of (s' _ _ (s2 _ _ hb))
  · rintro i x σ H3 H4 hi ⟨s3, x3, x4, x5, x6, x7, rfl⟩ ⟨T, y1, y2, rfl, hT, rfl, e1, e2⟩
    cases e1
    obtain ⟨row, hrow, r, us, rfl, hr', hus⟩ := paired_get hp i e2
    have s4 := s3.trans (same_new hT (.tup [.int (i : Nat), .ref r]))
    have hir : i < rows.length := hl ▸ hi
    have hid : i < ds.length := ok.len ▸ hir
    have hia : i < ad.length := hal ▸ hir
    obtain ⟨kvs, hk, hcn⟩ := hc2 _ _ (List.getElem?_eq_getElem hia)
    refine ⟨T, _, rfl, .inl (.inl upd_same), rfl, _, _, rfl, _, _, rfl, rfl, ?_⟩
    refine ⟨_, rfl, _, rfl, R, _, _, _, rfl, rfl, SqL.of (s4 _ _ hR2), atI_nat (by rw [List.getElem?_map, List.getElem?_eq_getElem hia]; rfl), _, rfl, r, us, rfl, .inl (SqL.of (s4 _ _ (s2 _ _ hr'))), _, rfl, _, rfl, a, _, _, _, rfl, rfl, (s2.trans s4).seq hA,
      atI_nat (by rw [List.getElem?_map, List.getElem?_eq_getElem hid]; rfl), _, _, rfl, rfl, ?_⟩
    have est : ((us.length : Nat) : Int) + ds[i] = (row.length : Int) + ds[i] := by rw [paired_len hus]
    refine ⟨ad[i], _, kvs, rfl, s4 _ _ hk, ?_, ?_, ?_, fun H5 s5 => ?_⟩
    · rw [est]; exact ok.st i row _ hrow (List.getElem?_eq_getElem hid)
    · intro a0 h1 h2
      rw [est] at h2
      have hm : ((i : Int), a0) ∈ rows.flatten := (ok.mem _).mpr ⟨i, row, ds[i], rfl, hrow, List.getElem?_eq_getElem hid, h1, h2⟩
      have hc1 : rows.flatten.count ((i : Int), a0) = 1 := count_one ok.nd hm
      rw [hcn.val a0, hc1]; rfl
    · intro kv hkv
      obtain ⟨a0, f1, f2⟩ := hcn.key kv hkv
      obtain ⟨i', row', d', g1, g2, g3, g4, g5⟩ := (ok.mem _).mp f2
      have g1 : (i : Int) = (i' : Int) := g1
      obtain rfl : i = i' := by omega
      rw [hrow] at g2; cases g2
      rw [List.getElem?_eq_getElem hid] at g3; cases g3
      exact ⟨a0, f1, by rw [est]; exact g5⟩
    · refine ⟨_, rfl, rfl, _, rfl, iteF ⟨s4.trans s5, _, _, _, _, _, rfl⟩⟩
  · rintro σ H3 ⟨s3, _⟩
    exact q _ (s2.trans s3)
end
end L2.FK
namespace L2.FK
open PySem PySem.Spec PyProof.Rows L2.FL
/-- what is asked of the class -/
structure Tx (K : PySem.W.Frag) (mg : Str → Option Value) (C : Addr) : Prop where
  cl : Cls K C
  nS : NoAttr K C "shifts"
  nR : NoAttr K C "rows"
  nI : NoAttr K C "images"
  nO : NoAttr K C "origins"
  mgC : mg "LaneMap" = some (.ref C)
section
variable {P : Program} {w : World} {K : PySem.W.Frag} {mg : Str → Option Value} {base : Heap}
abbrev sInit : Stmt := inClass sMap 0
abbrev nInit : List Str := ["self", "drifts", "goals", "rows", "row", "lane", "at", "image", "place"]
def spInit (K : PySem.W.Frag) (C : Addr) : Sp := fun vs H Q _ => ∃ (p dx a : Addr) (v : V) (ds : List Int) (rows : List (List Pl)), vs = [.ref p, .ref a, v] ∧ H p = some (.ins C dx []) ∧ H a = some (.lst (ds.map V.int)) ∧ Gin K H v rows ∧ Okm ds rows ∧
  ∀ H', (∀ b o, H b = some o → b ≠ p → H' b = some o) → LMap C H' (.ref p) ds (trimAll ds rows) → Q .non H'
theorem sc_in : FnScope nInit ["self", "drifts", "goals"] (C8.fnScope sInit) := C8.fnScope_by (by decide +kernel)
theorem ok_init {C f : Addr} {fd : FuncData} (F : C8.Fun K "__init__" "LaneMap.__init__" sInit f fd) (T : Tx K mg C) (B : Bl mg)
    (cCL : C8.Cal P w K mg base 1 "check_lanes" spCL []) (cCR : C8.Cal P w K mg base 1 "copied_rows" (spCR K) []) (cCW : C8.Cal P w K mg base 1 "check_width" (spCW K) [])
    (cCI : C8.Cal P w K mg base 2 "check_images" (spCI K) []) (cCB : C8.Cal P w K mg base 2 "check_bijective" (spCB K) []) (cTr : C8.Cal P w K mg base 1 "trimmed" spTr []) :
    FnOk P w K mg base C8.CX0 3 f fd ["self", "drifts", "goals"] (spInit K C) := by
  refine C8.fn0 F sc_in (fun vs H Q E z => ?_) (fun cdv A outer s H vs Q E hr z => ?_)
  · obtain ⟨p, dx, a, v, ds, rows, rfl, _⟩ := z; rfl
  obtain ⟨p, dx, a, v, ds, rows, rfl, hp, ha, hR, ok, q⟩ := z
  have nd := sc_in.nd
  have hu := hu_of hr
  have hu0 : (A.deeper (envOfC "LaneMap.__init__" (C8.fnScope sInit) s.heap.objs.size f cdv)).units < cLine := by omega
  refine ⟨_, pss_cons (ps_expr (C8.pe_c cCL hr (by decide) rfl (pa_cons (pe_callB call_len_seq (by rfl) B.len bt_len (pa_cons (pv 1) pa_nil)) pa_nil)))
    (pss_cons (ps_set (i := 3) nd rfl (.inl rfl) (C8.pe_c cCR hr (by decide) rfl (pa_cons (pe_callB call_len_seq (by rfl) B.len bt_len (pa_cons (pv 1) pa_nil)) (pa_cons (pv 2) pa_nil))))
    (pss_cons (ps_expr (C8.pe_c cCW hr (by decide) rfl (pa_cons (pe_lc (own := [("row", 4)]) (g := gName 4) (tt := tYes) rfl nd (pi_list (pv 3)) (blkOk_by (own := [("row", 4)]) (N := nInit) (sc := C8.fnScope sInit) (by decide +kernel))
      (fun _ _ _ _ _ => pg_name (i := 4) nd rfl (Or.inl rfl)) (fun _ _ _ _ _ => pts_nil) (fun _ _ _ _ _ => pe_callB (c_len K) (by rfl) B.len bt_len (pa_cons (pv 4) pa_nil))) pa_nil)))
    (pss_cons (ps_expr (C8.pe_c cCI hr (by decide) rfl (pa_cons (pv 1) (pa_cons (pv 3) pa_nil))))
    (C8.pss_cut (ps_expr (C8.pe_c cCB hr (by decide) rfl (pa_cons (pv 1) (pa_cons (pv 3) pa_nil))))
    (C8.pss_cut (ps_fld (pv 0) (pe_callTy (c_list K) (by rfl) B.list bt_list (pa_cons (pv 1) pa_nil)) rfl)
    (C8.pss_cut (ps_fld (pv 0) (pe_lc (own := [("lane", 5), ("row", 4)]) (g := gTup K 2 (gCons (gName 5) (gCons (gName 4) gNil))) (tt := tYes) rfl nd (pi_enum rfl B.enumerate (pa_cons (pv 3) pa_nil)) (blkOk_by (own := [("lane", 5), ("row", 4)]) (N := nInit) (sc := C8.fnScope sInit) (by decide +kernel))
      (fun _ _ _ _ _ => g_tup K (hp := pgs_cons (pg_name (i := 5) nd rfl (.inl rfl)) (pgs_cons (pg_name (i := 4) nd rfl (.inl rfl)) pgs_nil))) (fun _ _ _ _ _ => pts_nil)
      (fun _ _ _ _ _ => C8.pe_c cTr hr (by decide) rfl (pa_cons (pv 5) (pa_cons (pe_ix (x_list K) (pv 1) (pv 5) (fun _ _ => rfl)) (pa_cons (pv 4) pa_nil))))) rfl)
    (C8.pss_cut (ps_fld (pv 0) (pe_dcT2 (own := [("lane", 5), ("row", 4), ("at", 6), ("image", 7)]) (vs1 := [6, 7]) (g := gTup K 2 (gCons (gName 5) (gCons (gName 4) gNil))) (g1 := gTup K 2 (gCons (gName 6) (gCons (gName 7) gNil)))
        (wi1 := iEnum K (tCons (tVar 4) tNil)) hu0 rfl nd (pi_enum rfl B.enumerate (pa_cons (pe_fld (pv 0) rfl) pa_nil))
      (blkOk_by (own := [("lane", 5), ("row", 4), ("at", 6), ("image", 7)]) (N := nInit) (sc := C8.fnScope sInit) (by decide +kernel)) (by decide)
      (fun _ _ _ _ _ => g_tup K (hp := pgs_cons (pg_name (i := 5) nd rfl (.inl rfl)) (pgs_cons (pg_name (i := 4) nd rfl (.inl rfl)) pgs_nil)))
      (fun _ _ _ _ _ => n_enum K rfl B.enumerate (pa_cons (pv 4) pa_nil))
      (fun _ _ _ _ _ => g_tup K (hp := pgs_cons (pg_name (i := 6) nd rfl (.inl rfl)) (pgs_cons (pg_name (i := 7) nd rfl (.inl rfl)) pgs_nil)))
      (fun _ _ _ _ _ => pe_tup (pa_cons (pv 5) (pa_cons (pv 6) pa_nil))) (fun _ _ _ _ _ => pv 7)) rfl)
    (pss_one (ps_fld (pv 0) (pe_lock (pe_dcT (own := [("place", 8)]) (g := gName 8) hu0 rfl nd (pi_keys (pe_fld (pv 0) rfl)) (blkOk_by (own := [("place", 8)]) (N := nInit) (sc := C8.fnScope sInit) (by decide +kernel))
      (fun _ _ _ _ _ => pg_name (i := 8) nd rfl (.inl rfl)) (fun _ _ _ _ _ => pe_dget hu (e_fld K (pv 0)) (pv 8) (fun _ _ => rfl)) (fun _ _ _ _ _ => pv 8))) rfl))))))))), ?_⟩
  have hld : ((ds.map V.int).length : Int) = (rows.length : Nat) := by rw [List.length_map, ok.len]
  have hlo := ok.lo
  have hhi := ok.hi
  have hwid := ok.wid
  have hlen := ok.len
  -- check_lanes, copied_rows
  refine ⟨_, rfl, a, _, rfl, .inl (SqL.of ha), _, rfl, by rw [hld]; omega, by rw [hld]; omega, ?_⟩
  refine ⟨_, rfl, a, _, rfl, .inl (SqL.of ha), _, rfl, v, rows, (by rw [hld]; rfl), by omega, by omega, hR, fun r H1 s1 hR1 => ?_⟩
  obtain ⟨r, ws, rfl, hr1, hp1⟩ := hR1
  have hwl := paired_len hp1
  -- check_width
  refine ⟨_, rfl, r, rfl, ⟨_, SqL.of hr1⟩, fun D hD => ?_⟩
  refine lc_it (walk_list (K := K) (a := r) (xs := ws)) (fun i H' => H' = upd H1 D (.lst ((rows.take i).map fun x => V.int (x.length : Nat)))) (by rw [List.take_zero]; rfl) ?_ ?_ ?_
  · rintro i H' _ rfl; exact SqL.of (by rw [upd_ne (ne_of_none hr1 hD)]; exact hr1)
  · rintro i x H2 H3 hi rfl ⟨rfl, hx⟩
    obtain ⟨row, hrow, b, us, rfl, hb, hus⟩ := paired_get hp1 i hx
    refine ⟨rfl, _, rfl, b, us, rfl, .inl (SqL.of (by rw [upd_ne (ne_of_none hb hD)]; exact hb)), _, upd_same, snoc_le (by rw [List.length_map, List.length_take]; omega), ?_⟩
    rw [upd_upd, take_snoc hrow, List.map_append, paired_len hus]; rfl
  rintro H2 rfl
  rw [hwl, List.take_length]
  have e2 : (rows.map fun x => V.int (x.length : Nat)) = (rows.map fun x => ((x.length : Nat) : Int)).map V.int := by rw [List.map_map]; rfl
  rw [e2]
  generalize hH2 : upd H1 D (.lst ((rows.map fun x => ((x.length : Nat) : Int)).map V.int)) = H2
  have s2 : Same H H2 := by rw [← hH2]; exact same_put s1 (s1.free hD) _
  have s12 : Same H1 H2 := by rw [← hH2]; exact same_new hD _
  refine ⟨D, _, rfl, SqL.of (by rw [← hH2]; exact upd_same), ?_, ?_⟩
  · rw [sum_lens]; omega
  -- check_images, check_bijective
  have hR2 : RowsAt H2 (.ref r) rows := RowsAt.mono s12 ⟨r, ws, rfl, hr1, hp1⟩
  refine ⟨_, rfl, _, rfl, a, _, ds, rows, rfl, SqL.of (s2 _ _ ha), hR2, hlen, fun row hrow q hq => ?_, ok.st, fun H3 s3 => ?_⟩
  · obtain ⟨z1, z2, z3⟩ := ok.pl (List.mem_flatten.mpr ⟨row, hrow, hq⟩)
    unfold isPl
    rw [decide_eq_true z1, decide_eq_true (by rw [hlen]; exact z2), decide_eq_true z3]; rfl
  refine ⟨fun σ H4 => (Same H H4 ∧ RowsAt H4 (.ref r) rows) ∧ σ = [some (.ref p), some (.ref a), some v, some (.ref r), none, none, none, none, none], ?_, ?_⟩
  · exact ⟨_, rfl, _, rfl, a, _, ds, rows, rfl, SqL.of (s3 _ _ (s2 _ _ ha)), hR2.mono s3, ok, fun H4 s4 => ⟨⟨s2.trans (s3.trans s4), (hR2.mono s3).mono s4⟩, rfl⟩⟩
  rintro σ H4 ⟨⟨s24, hR4⟩, rfl⟩
  have hp4 := s24 _ _ hp
  -- self.shifts
  refine ⟨fun σ Ha => (∃ l, Ha p = some (.ins C dx (putF "shifts" (.ref l) [])) ∧ Same (del p H) (del p Ha) ∧ del p Ha l = some (.lst (ds.map V.int)) ∧ del p Ha a = some (.lst (ds.map V.int)) ∧ RowsAt (del p Ha) (.ref r) rows) ∧ σ = [some (.ref p), some (.ref a), some v, some (.ref r), none, none, none, none, none], ?_, ?_⟩
  · refine ⟨_, rfl, a, _, rfl, .inl (SqL.of (s24 _ _ ha)), fun l hl => ?_⟩
    have npl : p ≠ l := ne_of_none hp4 hl
    refine ⟨_, rfl, p, C, dx, _, rfl, by rw [upd_ne npl]; exact hp4, T.cl, T.nS, (by show 0 < 1000; decide), ?_⟩
    generalize hA : upd (upd H4 l (.lst (ds.map V.int))) p (.ins C dx (putF "shifts" (.ref l) [])) = Ha
    have dA : del p Ha = upd (del p H4) l (.lst (ds.map V.int)) := by rw [← hA, del_upd, del_upd_ne npl.symm]
    have sA : Same (del p H) (del p Ha) := by rw [dA]; exact (same_dels s24).trans (same_new (none_del hl) _)
    have sA4 : Same (del p H4) (del p Ha) := by rw [dA]; exact same_new (none_del hl) _
    have pA : Ha p = some (.ins C dx (putF "shifts" (.ref l) [])) := by rw [← hA]; exact upd_same
    have lA : del p Ha l = some (.lst (ds.map V.int)) := by rw [dA]; exact upd_same
    have aA : del p Ha a = some (.lst (ds.map V.int)) := sA _ _ (del_of hp ha (fun z => nomatch z))
    have rA : RowsAt (del p Ha) (.ref r) rows := (hR4.del hp4 (fun _ z => nomatch z) (fun _ z => nomatch z)).mono sA4
    exact ⟨⟨l, pA, sA, lA, aA, rA⟩, rfl⟩
  rintro σ Ha ⟨⟨l, pA, sA, lA, aA, rA⟩, rfl⟩
  obtain ⟨r', ws, er, hrA, hpA⟩ := rA
  cases er
  have hwl := paired_len hpA
  -- self.rows
  obtain ⟨TT, hTT⟩ : ∃ TT, trimAll ds rows = TT := ⟨_, rfl⟩
  rw [hTT] at q
  have hTl : TT.length = rows.length := by rw [← hTT, trimAll_len]
  refine ⟨fun σ Hb => (∃ D2 us, Hb p = some (.ins C dx (putF "rows" (.ref D2) (putF "shifts" (.ref l) []))) ∧ Same (del p Ha) (del p Hb) ∧ del p Hb D2 = some (.lst us) ∧ Paired (RowAt (del p Hb)) us TT) ∧ σ = [some (.ref p), some (.ref a), some v, some (.ref r), none, none, none, none, none], ?_, ?_⟩
  · refine ⟨_, rfl, r, _, rfl, SqL.of (del_same _ _ hrA), fun D2 hD2 => ?_⟩
    have nD2 : p ≠ D2 := ne_of_none pA hD2
    refine lc_it (walk_enum (K := K) (a := r) (xs := ws)) (fun i H' => Same (del p Ha) (del D2 (del p H')) ∧ H' p = some (.ins C dx (putF "shifts" (.ref l) [])) ∧ ∃ us, H' D2 = some (.lst us) ∧ Paired (RowAt (del D2 (del p H'))) us ((trimAll ds rows).take i)) ?_ ?_ ?_ ?_
    · refine ⟨?_, by rw [upd_ne nD2]; exact pA, [], upd_same, by rw [List.take_zero]; exact .nil⟩
      rw [del_del, del_upd, del_del]
      exact same_del (Same.refl _) (none_del hD2)
    · rintro i H' _ ⟨s', _⟩; exact SqL.of (del_same _ _ (del_same _ _ (s' _ _ hrA)))
    · rintro i x H5 H6 hi ⟨s5, p5, us, hu5, hp5⟩ ⟨Tt, y1, y2, rfl, hT, rfl, e1, e2⟩
      cases e1
      obtain ⟨row, hrow, b, xs, rfl, hb, hxs⟩ := paired_get hpA i e2
      have hir : i < rows.length := hwl ▸ hi
      have hid : i < ds.length := hlen ▸ hir
      have hd' := List.getElem?_eq_getElem hid
      generalize hH6 : upd H5 Tt (.tup [.int (i : Nat), .ref b]) = H6
      have s56 : Same H5 H6 := by rw [← hH6]; exact same_new hT _
      have sAll : Same (del p Ha) H6 := fun c o h => s56 _ _ (del_same _ _ (del_same _ _ (s5 _ _ h)))
      refine ⟨Tt, _, rfl, .inl (.inl (by rw [← hH6]; exact upd_same)), rfl, _, _, rfl, _, _, rfl, rfl, rfl, ?_⟩
      refine ⟨_, rfl, _, rfl, _, rfl, a, _, _, _, rfl, rfl, SqL.of (sAll _ _ aA), atI_nat (by rw [List.getElem?_map, hd']; rfl), _, rfl, ?_⟩
      refine ⟨_, _, _, row, rfl, ⟨b, xs, rfl, sAll _ _ hb, pls_mono sAll hxs⟩, fun t H7 ht s67 hrow7 => ?_⟩
      have s57 := s56.trans s67
      have nt : t ≠ D2 := (ne_of_none (s56 _ _ hu5) ht).symm
      have ntp : t ≠ p := (ne_of_none (s56 _ _ p5) ht).symm
      have u7 := s57 _ _ hu5
      refine ⟨us, u7, snoc_le (by rw [paired_len hp5, List.length_take, trimAll_len]; omega), ?_⟩
      have ed : del D2 (del p (upd H7 D2 (.lst (us ++ [.ref t])))) = del D2 (del p H7) := by rw [del_del, del_upd, del_del]
      have s8 : Same (del D2 (del p H5)) (del D2 (del p H7)) := same_dels (same_dels s57)
      refine ⟨by rw [ed]; exact s5.trans s8, by rw [upd_ne nD2]; exact s57 _ _ p5, _, upd_same, ?_⟩
      rw [ed, take_snoc (trimAll_get hrow hd')]
      refine paired_snoc (rows_mono s8 hp5) ?_
      have p7 := s57 _ _ p5
      have z1 : RowAt (del p H7) (.ref t) (trimRow (i : Nat) ds[i] row) := hrow7.del p7 (fun _ z => nomatch z) (fun _ z => nomatch z)
      have u7' : del p H7 D2 = some (.lst us) := by rw [del_ne nD2.symm]; exact u7
      exact z1.delN u7' (fun _ z => nomatch z) nt
    rintro H5 ⟨s5, p5, us, hu5, hp5⟩
    rw [hwl, ← trimAll_len ds rows, List.take_length] at hp5
    rw [hTT] at hp5
    refine ⟨_, rfl, p, C, dx, _, rfl, p5, T.cl, T.nR, (by show 1 < 1000; decide), ?_⟩
    generalize hB : upd H5 p (.ins C dx (putF "rows" (.ref D2) (putF "shifts" (.ref l) []))) = Hb
    have dB : del p Hb = del p H5 := by rw [← hB, del_upd]
    have sB : Same (del p Ha) (del p Hb) := by rw [dB]; exact s5.trans del_same
    have pB : Hb p = some (.ins C dx (putF "rows" (.ref D2) (putF "shifts" (.ref l) []))) := by rw [← hB]; exact upd_same
    have hRB : RowsAt (del p Hb) (.ref D2) TT := by rw [dB]; exact ⟨D2, us, rfl, by rw [del_ne nD2.symm]; exact hu5, rows_mono del_same hp5⟩
    obtain ⟨d2', us, er, huB, hpB⟩ := hRB
    cases er
    exact ⟨⟨D2, us, pB, sB, huB, hpB⟩, rfl⟩
  rintro σ Hb ⟨⟨D2, us, pB, sB, huB, hpB⟩, rfl⟩
  have lB := sB _ _ lA
  have hul := paired_len hpB
  have lk2 : (putF "rows" (V.ref D2) (putF "shifts" (V.ref l) [])).lookup ("rows" : Str) = some (.ref D2) := by rw [lookup_putF, if_pos rfl]
  -- self.images
  refine ⟨fun σ Hc => (∃ D3 im, Hc p = some (.ins C dx (putF "images" (.ref D3) (putF "rows" (.ref D2) (putF "shifts" (.ref l) [])))) ∧ Same (del p Hb) (del p Hc) ∧ Hc D3 = some (.dT im) ∧ im.length < 100000 ∧ Rep (del p Hc) im (fun x y => inner TT x = some y)) ∧ σ = [some (.ref p), some (.ref a), some v, some (.ref r), none, none, none, none, none], ?_, ?_⟩
  · refine ⟨_, rfl, p, C, dx, _, _, rfl, pB, T.cl, T.nR, lk2, D2, _, rfl, SqL.of (del_same _ _ huB), fun D3 hD3 => ?_⟩
    have nD3 : p ≠ D3 := ne_of_none pB hD3
    refine dc2o_it (walk_enum (K := K) (a := D2) (xs := us)) (B := fun Nx σ2 J1 H4 => ∃ W1 : Nat → Nat → Hp → Prop, (∃ m, W1 0 m H4) ∧ ∀ j k H, W1 j k H →
            (J1.stop j H ∧ Nx H) ∨
            (J1.go j H ∧ ∃ Nx1 : Hp → Prop, (∀ H', Nx1 H' → ∃ k', k' < k ∧ W1 (j + 1) k' H') ∧ ∀ x H', J1.yld j H x H' →
              gTup K 2 (gCons (gName 6) (gCons (gName 7) gNil)) x (wipe σ2 [6, 7]) H' fun σ3 H5 => wipe σ3 [6, 7] = wipe σ2 [6, 7] ∧ tTup (tCons (tVar 5) (tCons (tVar 6) tNil)) σ3 H5 fun y H6 => tVar 7 σ3 H6 fun z H7 =>
                ∃ kvs k b, y = .ref b ∧ H7 b = some (.tup (k.map kV)) ∧ H7 D3 = some (.dT kvs) ∧ kvs.length < sizeLine ∧ Nx1 (upd H7 D3 (.dT (putK kvs k z)))))
      (fun i H' => Same (del p Hb) (del D3 (del p H')) ∧ H' p = some (.ins C dx (putF "rows" (.ref D2) (putF "shifts" (.ref l) []))) ∧ ∃ im, H' D3 = some (.dT im) ∧ im.length ≤ 2000 * i ∧ Rep (del D3 (del p H')) im (fun x y => inner TT x = some y ∧ x.1 < (i : Int))) ?_ ?_ ?_ ?_
    · refine ⟨?_, by rw [upd_ne nD3]; exact pB, [], upd_same, by simp, Rep.nil.iff fun x y => ?_⟩
      · rw [del_del, del_upd, del_del]
        exact same_del (Same.refl _) (none_del hD3)
      · refine ⟨fun z => z.elim, fun z => ?_⟩
        obtain ⟨i, j, row, rfl, _⟩ := inner_some z.1
        have := z.2
        omega
    · rintro i H' _ ⟨s', _⟩; exact SqL.of (del_same _ _ (del_same _ _ (s' _ _ huB)))
    · rintro i x H5 H6 hi ⟨s6, p6, im, him, hil, hrep⟩ ⟨Tt, y1, y2, rfl, hT, rfl, e1, e2⟩
      cases e1
      obtain ⟨row, hrow, b, xs, rfl, hb, hxs⟩ := paired_get hpB i e2
      have hrl : row.length ≤ 2000 := by
        rw [← hTT] at hrow
        obtain ⟨row0, d0, g1, _, rfl⟩ := trimAll_of hlen hrow
        have := trimRow_len (i : Nat) d0 row0
        have := row_len g1
        omega
      generalize hH6 : upd H5 Tt (.tup [.int (i : Nat), .ref b]) = H6
      have s56 : Same H5 H6 := by rw [← hH6]; exact same_new hT _
      have sAll : ∀ {H'}, Same (del p Hb) (del D3 (del p H')) → Same (del p Hb) H' := fun s' c o h => del_same _ _ (del_same _ _ (s' _ _ h))
      have s6' : Same (del p Hb) (del D3 (del p H6)) := s6.trans (same_dels (same_dels s56))
      refine ⟨Tt, _, rfl, .inl (.inl (by rw [← hH6]; exact upd_same)), rfl, _, _, rfl, _, _, rfl, rfl, rfl, ?_⟩
      refine ⟨_, rfl, b, xs, rfl, SqL.of (sAll s6' _ _ hb), ?_⟩
      refine dc2i_it (walk_enum (K := K) (a := b) (xs := xs)) (fun j H' => Same (del p Hb) (del D3 (del p H')) ∧ H' p = some (.ins C dx (putF "rows" (.ref D2) (putF "shifts" (.ref l) []))) ∧ ∃ im, H' D3 = some (.dT im) ∧ im.length ≤ 2000 * i + j ∧ Rep (del D3 (del p H')) im (fun x y => inner TT x = some y ∧ (x.1 < (i : Int) ∨ (x.1 = (i : Int) ∧ x.2 < (j : Int))))) ?_ ?_ ?_ ?_
      · refine ⟨s6', s56 _ _ p6, im, s56 _ _ him, by omega, (hrep.mono (same_dels (same_dels s56))).iff fun x y => ?_⟩
        refine ⟨fun z => ⟨z.1, .inl z.2⟩, fun z => ⟨z.1, ?_⟩⟩
        obtain ⟨i', j', _, rfl, _⟩ := inner_some z.1
        rcases z.2 with z2 | z2
        · exact z2
        · have := z2.2; omega
      · rintro j H' _ ⟨s', _⟩; exact SqL.of (sAll s' _ _ hb)
      · rintro j x H7 H8 hj ⟨s7, p7, im, him, hil, hrep⟩ ⟨T2, z1, z2, rfl, hT2, rfl, f1, f2⟩
        cases f1
        have hxl := paired_len hxs
        obtain ⟨img, himg, hpl⟩ := paired_get hxs j f2
        have hin : inner TT ((i : Int), (j : Int)) = some img := by rw [inner_at hrow]; exact himg
        generalize hH8 : upd H7 T2 (.tup [.int (j : Nat), z2]) = H8
        have s78 : Same H7 H8 := by rw [← hH8]; exact same_new hT2 _
        refine ⟨T2, _, rfl, .inl (.inl (by rw [← hH8]; exact upd_same)), rfl, _, _, rfl, _, _, rfl, rfl, rfl, ?_⟩
        refine ⟨_, rfl, _, rfl, (by show 2 ≤ sizeLine; decide), fun t ht => ?_⟩
        generalize hH9 : upd H8 t (.tup [.int (i : Nat), .int (j : Nat)]) = H9
        have s89 : Same H8 H9 := by rw [← hH9]; exact same_new ht _
        have s79 := s78.trans s89
        have s9 : Same (del D3 (del p H7)) (del D3 (del p H9)) := same_dels (same_dels s79)
        have h39 := s79 _ _ him
        refine ⟨_, rfl, im, key ((i : Int), (j : Int)), t, rfl, (by rw [← hH9]; exact upd_same), h39, snoc_le (by omega), ?_⟩
        have ed : ∀ o, del D3 (del p (upd H9 D3 o)) = del D3 (del p H9) := fun o => by rw [del_del, del_upd, del_del]
        refine ⟨by rw [ed]; exact s7.trans s9, by rw [upd_ne nD3]; exact s79 _ _ p7, _, upd_same, ?_, ?_⟩
        · have := length_putK im (key ((i : Int), (j : Int))) z2
          omega
        · rw [ed]
          refine ((hrep.mono s9).put (hpl.mono (s7.trans s9)) fun q' hq' => ?_).iff fun x y => ?_
          · have := hq'.1; rw [hin] at this; exact (Option.some.inj this).symm
          · constructor
            · rintro (⟨z1, z2⟩ | ⟨rfl, rfl⟩)
              · refine ⟨z1, ?_⟩
                rcases z2 with z2 | z2
                · exact .inl z2
                · exact .inr ⟨z2.1, by have := z2.2; omega⟩
              · exact ⟨hin, .inr ⟨rfl, by show (j : Int) < ((j + 1 : Nat) : Int); omega⟩⟩
            · rintro ⟨z1, z2⟩
              rcases z2 with z2 | ⟨z2, z3⟩
              · exact .inl ⟨z1, .inl z2⟩
              · obtain ⟨i', j', row', rfl, g1, g2⟩ := inner_some z1
                have z2 : (i' : Int) = (i : Int) := z2
                have z3 : (j' : Int) < ((j + 1 : Nat) : Int) := z3
                by_cases c : j' = j
                · right
                  obtain rfl : i' = i := by omega
                  subst c
                  rw [hin] at z1
                  exact ⟨rfl, (Option.some.inj z1).symm⟩
                · exact .inl ⟨z1, .inr ⟨z2, by show (j' : Int) < (j : Int); omega⟩⟩
      · rintro H7 ⟨s7, p7, im, him, hil, hrep⟩
        have hxl := paired_len hxs
        refine ⟨s7, p7, im, him, by omega, hrep.iff fun x y => ?_⟩
        constructor
        · rintro ⟨z1, z2⟩
          refine ⟨z1, ?_⟩
          rcases z2 with z2 | z2
          · omega
          · have := z2.1; omega
        · rintro ⟨z1, z2⟩
          refine ⟨z1, ?_⟩
          obtain ⟨i', j', row', rfl, g1, g2⟩ := inner_some z1
          have z2 : (i' : Int) < ((i + 1 : Nat) : Int) := z2
          by_cases c : i' = i
          · right
            subst c
            rw [hrow] at g1
            cases g1
            obtain ⟨g3, _⟩ := List.getElem?_eq_some_iff.mp g2
            exact ⟨rfl, by show (j' : Int) < (xs.length : Nat); omega⟩
          · left; show (i' : Int) < (i : Int); omega
    rintro H5 ⟨s6, p6, im, him, hil, hrep⟩
    refine ⟨_, rfl, p, C, dx, _, rfl, p6, T.cl, T.nI, ?_, ?_⟩
    · have z1 := putF_len "rows" (V.ref D2) (putF "shifts" (V.ref l) [])
      have z2 := putF_len "shifts" (V.ref l) []
      have : ([] : List (Str × V)).length = 0 := rfl
      omega
    generalize hCc : upd H5 p (.ins C dx (putF "images" (.ref D3) (putF "rows" (.ref D2) (putF "shifts" (.ref l) [])))) = Hc
    have dC : del p Hc = del p H5 := by rw [← hCc, del_upd]
    have sC : Same (del p Hb) (del p Hc) := by rw [dC]; exact s6.trans del_same
    have pC : Hc p = some (.ins C dx (putF "images" (.ref D3) (putF "rows" (.ref D2) (putF "shifts" (.ref l) [])))) := by rw [← hCc]; exact upd_same
    have iC : Hc D3 = some (.dT im) := by rw [← hCc, upd_ne nD3.symm]; exact him
    have rC : Rep (del p Hc) im (fun x y => inner TT x = some y) := by
      rw [dC]
      refine (hrep.mono del_same).iff fun x y => ⟨fun z => z.1, fun z => ⟨z, ?_⟩⟩
      obtain ⟨i', j', row', rfl, g1, g2⟩ := inner_some z
      obtain ⟨g3, _⟩ := List.getElem?_eq_some_iff.mp g1
      show (i' : Int) < (us.length : Nat)
      omega
    exact ⟨⟨D3, im, pC, sC, iC, by omega, rC⟩, rfl⟩
  rintro σ Hc ⟨⟨D3, im, pC, sC, iC, hil, rC⟩, rfl⟩
  have nD3 : p ≠ D3 := ne_of pC iC (fun z => nomatch z)
  have lC := sC _ _ lB
  have uC := sC _ _ huB
  have hpC := rows_mono sC hpB
  have lk3 : (putF "images" (V.ref D3) (putF "rows" (V.ref D2) (putF "shifts" (V.ref l) []))).lookup ("images" : Str) = some (.ref D3) := by rw [lookup_putF, if_pos rfl]
  -- self.origins
  refine ⟨D3, _, iC, trivial, fun od => ?_⟩
  have pC' : ∀ {u}, upd Hc D3 u p = some (.ins C dx (putF "images" (.ref D3) (putF "rows" (.ref D2) (putF "shifts" (.ref l) [])))) := fun {u} => by rw [upd_ne nD3]; exact pC
  refine ⟨_, rfl, p, C, dx, _, _, rfl, pC', T.cl, T.nI, lk3, D3, od, rfl, .inr ⟨im, upd_same, fun D4 hD4 => ?_⟩⟩
  have n43 : D3 ≠ D4 := ne_of_none (upd_same (H := Hc) (a := D3)) hD4
  have nD4 : p ≠ D4 := ne_of_none (pC' (u := .frz od (.dT im))) hD4
  have hD4' : Hc D4 = none := by rw [upd_ne n43.symm] at hD4; exact hD4
  refine dc_it (walk_keysT (d := D3) (o := od) (kvs := im)) (fun i H' => ∃ og, H' = upd (upd Hc D3 (.frz od (.dT im))) D4 (.dT og) ∧ og.length ≤ i ∧ Rep (del p Hc) og (fun y x => inner TT x = some y ∧ ∃ t, t < i ∧ ∃ v, im[t]? = some (key x, v))) ?_ ?_ ?_ ?_
  · exact ⟨[], rfl, Nat.le_refl _, Rep.nil.iff fun y x => ⟨fun z => z.elim, fun z => by obtain ⟨_, t, ht, _⟩ := z; omega⟩⟩
  · rintro i H' _ ⟨og, rfl, _⟩; rw [upd_ne n43, upd_same]
  · rintro i x H6 H7 hi ⟨og, rfl, hol, hrep⟩ ⟨rfl, k, vv, qa, hk, rfl, hq⟩
    obtain ⟨x0, y0, ek, hin, hpl⟩ := rC.only _ (List.mem_of_getElem? hk)
    have ek : k = key x0 := ek
    subst ek
    obtain ⟨v', hv', t', rfl, ht'⟩ := rC.has x0 y0 hin
    have tup_keep : ∀ {c : Addr} {ys : List V}, Hc c = some (.tup ys) → upd (upd Hc D3 (.frz od (.dT im))) D4 (.dT og) c = some (.tup ys) := fun {c ys} hc => by
      rw [upd_ne (ne_of_none hc hD4'), upd_ne (ne_of hc iC (fun z => nomatch z))]; exact hc
    have hqc : Hc qa = some (.tup [.int x0.1, .int x0.2]) := by
      by_cases c1 : qa = D4
      · subst c1; rw [upd_same] at hq; cases hq
      · by_cases c2 : qa = D3
        · subst c2; rw [upd_ne n43, upd_same] at hq; cases hq
        · rw [upd_ne c1, upd_ne c2] at hq; exact hq
    refine ⟨rfl, _, rfl, p, C, dx, _, _, rfl, by rw [upd_ne nD4]; exact pC', T.cl, T.nI, lk3, _, rfl, D3, .ref t', rfl, ?_, _, rfl, og, key y0, t', rfl, tup_keep (of_del ht').1, upd_same, ?_, ?_⟩
    · exact .inr ⟨im, key x0, qa, .inr ⟨od, by rw [upd_ne n43, upd_same]⟩, rfl, tup_keep hqc, hv'.symm⟩
    · exact snoc_le (by omega)
    · refine ⟨_, by rw [upd_upd], ?_, ?_⟩
      · have := length_putK og (key y0) (V.ref qa); omega
      · refine (hrep.put (p := y0) (q := x0) ⟨qa, rfl, del_of pC hqc (fun z => nomatch z)⟩ fun x' hx' => ?_).iff fun y x => ?_
        · have h1 := hx'.1
          rw [← hTT] at h1 hin
          exact inner_inj ok.nd (inner_trim hlen h1) (inner_trim hlen hin)
        · constructor
          · rintro (⟨z1, t, z2, z3⟩ | ⟨rfl, rfl⟩)
            · exact ⟨z1, t, by omega, z3⟩
            · exact ⟨hin, i, by omega, _, hk⟩
          · rintro ⟨z1, t, z2, v3, z3⟩
            by_cases c : t = i
            · subst c
              rw [hk] at z3
              injection z3 with z3
              injection z3 with z3 z4
              have : x0 = x := key_inj z3
              subst this
              rw [hin] at z1
              exact .inr ⟨(Option.some.inj z1).symm, rfl⟩
            · exact .inl ⟨z1, t, by omega, v3, z3⟩
  rintro H6 ⟨og, rfl, hol, hrep⟩
  refine ⟨by rw [upd_ne n43, upd_same], ?_⟩
  have eH : upd (upd (upd Hc D3 (.frz od (.dT im))) D4 (.dT og)) D3 (.dT im) = upd Hc D4 (.dT og) := by
    funext b
    by_cases c : b = D3
    · subst c; rw [upd_same, upd_ne n43]; exact iC.symm
    · rw [upd_ne c]
      by_cases c' : b = D4
      · subst c'; rw [upd_same, upd_same]
      · rw [upd_ne c', upd_ne c', upd_ne c]
  rw [eH]
  refine ⟨_, rfl, p, C, dx, _, rfl, by rw [upd_ne nD4]; exact pC, T.cl, T.nO, ?_, ?_⟩
  · have z1 := putF_len "images" (V.ref D3) (putF "rows" (V.ref D2) (putF "shifts" (V.ref l) []))
    have z2 := putF_len "rows" (V.ref D2) (putF "shifts" (V.ref l) [])
    have z3 := putF_len "shifts" (V.ref l) []
    have : ([] : List (Str × V)).length = 0 := rfl
    omega
  have sF : Same (del p Hc) (upd (upd Hc D4 (.dT og)) p (.ins C dx (flds (.ref l) (.ref D2) (.ref D3) (.ref D4)))) := fun b o e => by
    obtain ⟨e1, e2⟩ := of_del e
    rw [upd_ne e2, upd_ne (ne_of_none e1 hD4')]; exact e1
  refine q _ (fun b o e hb => sF _ _ (sC _ _ (sB _ _ (sA _ _ (by rw [del_ne hb]; exact e))))) ?_
  refine ⟨p, dx, l, .ref D2, D3, D4, im, og, rfl, upd_same, sF _ _ lC, ⟨D2, us, rfl, sF _ _ uC, rows_mono sF hpC⟩, sF _ _ (by rw [del_ne nD3.symm]; exact iC), rC.mono sF, ?_, ?_⟩
  · rw [upd_ne nD4.symm, upd_same]
  · refine (hrep.mono sF).iff fun y x => ⟨fun z => z.1, fun z => ⟨z, ?_⟩⟩
    obtain ⟨v, hv, _⟩ := rC.has x y z
    obtain ⟨kv, hkv, ek⟩ := List.mem_map.mp (valV_in hv)
    obtain ⟨t, ht⟩ := List.mem_iff_getElem?.mp hkv
    obtain ⟨hlt, _⟩ := List.getElem?_eq_some_iff.mp ht
    exact ⟨t, hlt, kv.2, by rw [ht, ← ek]⟩
end
end L2.FK
/-! The mathematics of maps: images, trimming, inverses, compositions. -/
namespace L2.FK
/-- the image of a place -/
def gl (ds : List Int) (T : List (List Pl)) (p : Pl) : Pl := (inner T p).getD (p.1, p.2 + ds.getD p.1.toNat 0)
def Src (ds : List Int) (T : List (List Pl)) (y x : Pl) : Prop := inner T x = some y ∨ ((∀ z, inner T z ≠ some y) ∧ x = (y.1, y.2 - ds.getD y.1.toNat 0))
open Classical in
noncomputable def srcOf (ds : List Int) (T : List (List Pl)) (y : Pl) : Pl := if h : ∃ x, inner T x = some y then h.choose else (y.1, y.2 - ds.getD y.1.toNat 0)
def isP (n : Nat) (p : Pl) : Prop := 0 ≤ p.1 ∧ p.1 < (n : Int) ∧ 0 ≤ p.2
theorem isP_nat {n : Nat} {p : Pl} (h : isP n p) : ∃ i j : Nat, p = ((i : Int), (j : Int)) ∧ i < n := by
  obtain ⟨a, b⟩ := p
  obtain ⟨h1, h2, h3⟩ := h
  have h1 : 0 ≤ a := h1
  have h2 : a < (n : Int) := h2
  have h3 : 0 ≤ b := h3
  exact ⟨a.toNat, b.toNat, by rw [Int.toNat_of_nonneg h1, Int.toNat_of_nonneg h3], by omega⟩
theorem isP_of {n i j : Nat} (h : i < n) : isP n ((i : Int), (j : Int)) := ⟨by show (0 : Int) ≤ (i : Int); omega, by show (i : Int) < (n : Int); omega, by show (0 : Int) ≤ (j : Int); omega⟩
theorem nodup_sub_len : ∀ {l m : List Pl}, l.Nodup → (∀ x, x ∈ l → x ∈ m) → l.length ≤ m.length
  | [], _, _, _ => Nat.zero_le _
  | a :: r, m, hn, hs => by
    obtain ⟨h1, h2⟩ := List.nodup_cons.mp hn
    have ha := hs a List.mem_cons_self
    have ih := nodup_sub_len (m := m.erase a) h2 fun x hx => (List.mem_erase_of_ne fun (e : x = a) => h1 (by rw [← e]; exact hx)).mpr (hs x (List.mem_cons_of_mem _ hx))
    rw [List.length_erase_of_mem ha] at ih
    have := List.length_pos_of_mem ha
    rw [List.length_cons]; omega
section
variable {ds es : List Int} {T U : List (List Pl)} {i j : Nat} {row : List Pl} {d : Int} {p q x y : Pl}
theorem gl_in (h : T[i]? = some row) (hj : row[j]? = some q) : gl ds T ((i : Int), (j : Int)) = q := by
  unfold gl; rw [inner_at h, hj]; rfl
theorem getD_of (hd : ds[i]? = some d) : ds.getD i 0 = d := by rw [List.getD_eq_getElem?_getD, hd]; rfl
theorem gl_out (h : T[i]? = some row) (hj : row.length ≤ j) (hd : ds[i]? = some d) : gl ds T ((i : Int), (j : Int)) = ((i : Int), (j : Int) + d) := by
  unfold gl
  rw [inner_at h, List.getElem?_eq_none_iff.mpr hj]
  show ((i : Int), (j : Int) + ds.getD ((i : Nat) : Int).toNat 0) = _
  rw [Int.toNat_natCast, getD_of hd]
theorem Okm.both (o : Okm ds T) (h : i < ds.length) : ∃ row d, T[i]? = some row ∧ ds[i]? = some d :=
  ⟨_, _, List.getElem?_eq_getElem (o.len ▸ h), List.getElem?_eq_getElem h⟩
theorem Okm.start_le (o : Okm ds T) (h : T[i]? = some row) (hd : ds[i]? = some d) : (row.length : Int) + d ≤ 2000 := by
  -- the places below the start are goals, all of them different
  have h0 := o.st i row d h hd
  have sub : ((List.range ((row.length : Int) + d).toNat).map fun a => (((i : Int), ((a : Nat) : Int)) : Pl)).length ≤ T.flatten.length := by
    refine nodup_sub_len ?_ ?_
    · refine List.Pairwise.map _ ?_ List.nodup_range
      intro a b hab e
      injection e with _ e
      exact hab (by omega)
    · intro z hz
      obtain ⟨a, ha, rfl⟩ := List.mem_map.mp hz
      have ha := List.mem_range.mp ha
      exact (o.mem _).mpr ⟨i, row, d, rfl, h, hd, by show (0 : Int) ≤ (a : Int); omega, by show (a : Int) < _; omega⟩
  rw [List.length_map, List.length_range] at sub
  have := o.wid
  omega
theorem Okm.drift (o : Okm ds T) (h : T[i]? = some row) (hd : ds[i]? = some d) : -2000 ≤ d ∧ d ≤ 2000 ∧ row.length ≤ 2000 := by
  have h1 := o.start_le h hd
  have h2 := o.st i row d h hd
  have h3 := row_len h
  have h4 := o.wid
  omega
theorem gl_isP (o : Okm ds T) (h : isP ds.length p) : isP ds.length (gl ds T p) := by
  obtain ⟨i, j, rfl, hi⟩ := isP_nat h
  obtain ⟨row, d, h1, h2⟩ := o.both hi
  by_cases c : j < row.length
  · rw [gl_in h1 (List.getElem?_eq_getElem c)]
    exact o.pl (Okm.in_row (ds := ds) h1 (List.getElem?_eq_getElem c))
  · rw [gl_out h1 (by omega) h2]
    have := o.st i row d h1 h2
    exact ⟨by show (0 : Int) ≤ i; omega, by show (i : Int) < _; omega, by show (0 : Int) ≤ (j : Int) + d; omega⟩
theorem gl_inj (o : Okm ds T) (hp : isP ds.length p) (hq : isP ds.length q) (e : gl ds T p = gl ds T q) : p = q := by
  obtain ⟨i, j, rfl, hi⟩ := isP_nat hp
  obtain ⟨i', j', rfl, hi'⟩ := isP_nat hq
  obtain ⟨row, d, h1, h2⟩ := o.both hi
  obtain ⟨row', d', h1', h2'⟩ := o.both hi'
  have key : ∀ {i j i' j' : Nat} {row row' : List Pl} {d' : Int}, T[i]? = some row → j < row.length → T[i']? = some row' → ds[i']? = some d' → row'.length ≤ j' → gl ds T ((i : Int), (j : Int)) ≠ ((i' : Int), (j' : Int) + d') := fun {i j i' j' row row' d'} a1 a2 a3 a4 a5 e => by
    rw [gl_in a1 (List.getElem?_eq_getElem a2)] at e
    have m := Okm.in_row (ds := ds) a1 (List.getElem?_eq_getElem a2)
    rw [e] at m
    obtain ⟨k, r, dd, f1, f2, f3, f4, f5⟩ := (o.mem _).mp m
    have f1 : (i' : Int) = (k : Int) := f1
    obtain rfl : i' = k := by omega
    rw [a3] at f2; cases f2
    rw [a4] at f3; cases f3
    have f5 : (j' : Int) + d' < (row'.length : Int) + d' := f5
    omega
  by_cases c : j < row.length
  · by_cases c' : j' < row'.length
    · rw [gl_in h1 (List.getElem?_eq_getElem c), gl_in h1' (List.getElem?_eq_getElem c')] at e
      obtain ⟨e1, e2⟩ := nodup_flatten_at o.nd h1 (List.getElem?_eq_getElem c) h1' (by rw [e]; exact List.getElem?_eq_getElem c')
      rw [e1, e2]
    · rw [gl_out h1' (by omega) h2'] at e
      exact absurd e (key h1 c h1' h2' (by omega))
  · by_cases c' : j' < row'.length
    · rw [gl_out h1 (by omega) h2] at e
      exact absurd e.symm (key h1' c' h1 h2 (by omega))
    · rw [gl_out h1 (by omega) h2, gl_out h1' (by omega) h2'] at e
      injection e with e1 e2
      obtain rfl : i = i' := by omega
      rw [h2] at h2'; cases h2'
      have : j = j' := by omega
      rw [this]
theorem src_eq (hn : T.flatten.Nodup) (h : Src ds T y x) : x = srcOf ds T y := by
  unfold srcOf
  rcases h with h | ⟨h, e⟩
  · have c : ∃ x, inner T x = some y := ⟨x, h⟩
    rw [dif_pos c]
    exact inner_inj hn h c.choose_spec
  · rw [dif_neg fun ⟨x, z⟩ => h x z]; exact e
theorem src_is (ds : List Int) (T : List (List Pl)) (y : Pl) : Src ds T y (srcOf ds T y) := by
  unfold srcOf
  by_cases c : ∃ x, inner T x = some y
  · rw [dif_pos c]; exact .inl c.choose_spec
  · rw [dif_neg c]; exact .inr ⟨fun z h => c ⟨z, h⟩, rfl⟩
/-- the source of a place: a place, mapped to it -/
theorem src_spec (o : Okm ds T) (h : isP ds.length y) : isP ds.length (srcOf ds T y) ∧ gl ds T (srcOf ds T y) = y := by
  rcases src_is ds T y with z | ⟨z, e⟩
  · generalize srcOf ds T y = x at z
    obtain ⟨i, j, row, rfl, h1, h2⟩ := inner_some z
    obtain ⟨hi, _⟩ := List.getElem?_eq_some_iff.mp h1
    exact ⟨isP_of (o.len ▸ hi), gl_in h1 h2⟩
  · rw [e]
    obtain ⟨i, j, rfl, hi⟩ := isP_nat h
    obtain ⟨row, d, h1, h2⟩ := o.both hi
    have hd : ds.getD (((i : Nat) : Int)).toNat 0 = d := by rw [Int.toNat_natCast, getD_of h2]
    show isP ds.length ((i : Int), (j : Int) - ds.getD (((i : Nat) : Int)).toNat 0) ∧ gl ds T ((i : Int), (j : Int) - ds.getD (((i : Nat) : Int)).toNat 0) = _
    rw [hd]
    have far : (row.length : Int) + d ≤ (j : Int) := by
      refine Decidable.byContradiction fun c => ?_
      obtain ⟨x, hx⟩ := mem_inner ((o.mem ((i : Int), (j : Int))).mpr ⟨i, row, d, rfl, h1, h2, by show (0 : Int) ≤ j; omega, by show (j : Int) < _; omega⟩)
      exact z x hx
    have ej : (j : Int) - d = (((j : Int) - d).toNat : Nat) := by omega
    rw [ej]
    refine ⟨isP_of hi, ?_⟩
    rw [gl_out h1 (by omega) h2]
    rw [← ej]
    congr 1
    omega
theorem src_gl (o : Okm ds T) (h : isP ds.length p) : srcOf ds T (gl ds T p) = p := by
  obtain ⟨h1, h2⟩ := src_spec o (gl_isP o h)
  exact gl_inj o h1 h h2
end
/-! ### trimming -/
section
variable {ds es : List Int} {T U : List (List Pl)} {i j : Nat} {row : List Pl} {d : Int} {p q x y : Pl}
theorem trimLen_tail (l d : Int) (row : List Pl) : ∀ (n k : Nat), trimLen l d row n ≤ k → k < n → row[k]? = some (l, (k : Int) + d)
  | 0, k, _, h => by omega
  | n + 1, k, h1, h2 => by
    unfold trimLen at h1
    split at h1
    · rename_i e
      by_cases c : k = n
      · subst c; exact e
      · exact trimLen_tail l d row n k h1 (by omega)
    · omega
theorem trimLen_last (l d : Int) (row : List Pl) : ∀ (n k : Nat), trimLen l d row n = k + 1 → row[k]? ≠ some (l, (k : Int) + d)
  | 0, k, h => by simp [trimLen] at h
  | n + 1, k, h => by
    unfold trimLen at h
    split at h
    · exact trimLen_last l d row n k h
    · rename_i e
      obtain rfl : n = k := by omega
      exact e
theorem trimRow_length (l d : Int) (row : List Pl) : (trimRow l d row).length = trimLen l d row row.length := by
  unfold trimRow
  rw [List.length_take]
  have := trimLen_le l d row row.length
  omega
theorem trimRow_last {l d : Int} {row : List Pl} {k : Nat} (h : (trimRow l d row).length = k + 1) : (trimRow l d row)[k]? ≠ some (l, (k : Int) + d) := by
  intro e
  rw [trimRow_length] at h
  exact trimLen_last l d row row.length k h (trimRow_get e)
/-- trimmed: no goal at a row's end is what the drift gives -/
def Trd (ds : List Int) (T : List (List Pl)) : Prop := ∀ (i : Nat) row d k, T[i]? = some row → ds[i]? = some d → row.length = k + 1 → row[k]? ≠ some ((i : Int), (k : Int) + d)
theorem trimAll_trd (hl : T.length = ds.length) : Trd ds (trimAll ds T) := fun i row d k h hd hk => by
  obtain ⟨r0, d0, h1, h2, rfl⟩ := trimAll_of hl h
  rw [hd] at h2; cases h2
  exact trimRow_last hk
theorem gl_trim (hl : T.length = ds.length) (h : isP ds.length p) : gl ds (trimAll ds T) p = gl ds T p := by
  obtain ⟨i, j, rfl, hi⟩ := isP_nat h
  have h1 := List.getElem?_eq_getElem (hl ▸ hi : i < T.length)
  have h2 := List.getElem?_eq_getElem hi
  have h3 := trimAll_get h1 h2
  generalize T[i] = row at h1 h3
  generalize ds[i] = d at h2 h3
  by_cases c : j < (trimRow (i : Int) d row).length
  · rw [gl_in h3 (List.getElem?_eq_getElem c), gl_in h1 (trimRow_get (List.getElem?_eq_getElem c))]
  · rw [gl_out h3 (by omega) h2]
    rw [trimRow_length] at c
    by_cases c' : j < row.length
    · rw [gl_in h1 (trimLen_tail (i : Int) d row row.length j (by omega) c')]
    · rw [gl_out h1 (by omega) h2]
/-- trimmed maps with the same images are the same -/
theorem canon (hl : T.length = ds.length) (hl' : U.length = ds.length) (ht : Trd ds T) (hu : Trd ds U) (he : ∀ p, isP ds.length p → gl ds T p = gl ds U p) : T = U := by
  have half : ∀ {T U : List (List Pl)}, Trd ds U → (∀ p, isP ds.length p → gl ds T p = gl ds U p) → ∀ (i : Nat) (row row' : List Pl) (d : Int), i < ds.length → T[i]? = some row → U[i]? = some row' → ds[i]? = some d → row'.length ≤ row.length := fun {T U} hu he i row row' d hi h1 h2 h3 => by
    refine Decidable.byContradiction fun c => ?_
    obtain ⟨k, hk⟩ : ∃ k, row'.length = k + 1 := ⟨row'.length - 1, by omega⟩
    have e := he ((i : Int), (k : Int)) (isP_of hi)
    rw [gl_out h1 (by omega) h3, gl_in h2 (List.getElem?_eq_getElem (by omega : k < row'.length))] at e
    exact hu i row' d k h2 h3 hk (by rw [List.getElem?_eq_getElem (by omega : k < row'.length), ← e])
  refine List.ext_getElem? fun i => ?_
  by_cases hi : i < ds.length
  · have h1 := List.getElem?_eq_getElem (hl ▸ hi : i < T.length)
    have h2 := List.getElem?_eq_getElem (hl' ▸ hi : i < U.length)
    have h3 := List.getElem?_eq_getElem hi
    rw [h1, h2]
    generalize T[i] = row at h1
    generalize U[i] = row' at h2
    generalize ds[i] = d at h3
    congr 1
    have l1 := half hu he i row row' d hi h1 h2 h3
    have l2 := half ht (fun p hp => (he p hp).symm) i row' row d hi h2 h1 h3
    refine List.ext_getElem? fun j => ?_
    by_cases hj : j < row.length
    · have e := he ((i : Int), (j : Int)) (isP_of hi)
      rw [gl_in h1 (List.getElem?_eq_getElem hj), gl_in h2 (List.getElem?_eq_getElem (by omega : j < row'.length))] at e
      rw [List.getElem?_eq_getElem hj, List.getElem?_eq_getElem (by omega : j < row'.length), e]
    · rw [List.getElem?_eq_none_iff.mpr (by omega), List.getElem?_eq_none_iff.mpr (by omega)]
  · rw [List.getElem?_eq_none_iff.mpr (by omega), List.getElem?_eq_none_iff.mpr (by omega)]
/-- a map by its images: what is to be shown that it is valid -/
theorem okm_of (hl : T.length = ds.length) (lo : 1 ≤ ds.length) (hi : ds.length ≤ 6) (wid : T.flatten.length ≤ 2000) (st : ∀ (i : Nat) row d, T[i]? = some row → ds[i]? = some d → 0 ≤ (row.length : Int) + d)
    (onto : ∀ (i j : Nat) row d, T[i]? = some row → ds[i]? = some d → (j : Int) < (row.length : Int) + d → ∃ x, inner T x = some ((i : Int), (j : Int)))
    (into : ∀ x y, inner T x = some y → ∃ (i j : Nat) (row : List Pl) (d : Int), y = ((i : Int), (j : Int)) ∧ T[i]? = some row ∧ ds[i]? = some d ∧ (j : Int) < (row.length : Int) + d)
    (inj : ∀ x x' y, inner T x = some y → inner T x' = some y → x = x') : Okm ds T := by
  refine ⟨hl, lo, hi, wid, st, fun p => ⟨fun h => ?_, fun h => ?_⟩, ?_⟩
  · obtain ⟨x, hx⟩ := mem_inner h
    obtain ⟨i, j, row, d, rfl, h1, h2, h3⟩ := into x p hx
    exact ⟨i, row, d, rfl, h1, h2, by show (0 : Int) ≤ (j : Int); omega, h3⟩
  · obtain ⟨i, row, d, e, h1, h2, h3, h4⟩ := h
    obtain ⟨a, b⟩ := p
    have e : a = (i : Int) := e
    have h3 : 0 ≤ b := h3
    have h4 : b < (row.length : Int) + d := h4
    obtain ⟨x, hx⟩ := onto i b.toNat row d h1 h2 (by omega)
    rw [Int.toNat_of_nonneg h3, ← e] at hx
    exact inner_mem hx
  · exact nodup_of_inj inj
where
  nodup_of_inj : ∀ {T : List (List Pl)}, (∀ x x' y, inner T x = some y → inner T x' = some y → x = x') → T.flatten.Nodup := fun {T} inj => by
    have row_nd : ∀ (i : Nat) row, T[i]? = some row → row.Nodup := fun i row h => by
      refine List.pairwise_iff_getElem.mpr fun a b ha hb hab e => ?_
      have q1 : inner T ((i : Int), (a : Int)) = some row[b] := by rw [inner_at h, List.getElem?_eq_getElem ha, e]
      have q2 : inner T ((i : Int), (b : Int)) = some row[b] := by rw [inner_at h, List.getElem?_eq_getElem hb]
      have := inj _ _ _ q1 q2
      injection this with _ z
      omega
    have pw : T.Pairwise (fun a b => ∀ x ∈ a, ∀ y ∈ b, x ≠ y) := by
      rw [List.pairwise_iff_getElem]
      intro i j hi hj hij x hx y hy e
      subst e
      obtain ⟨a, ha⟩ := List.mem_iff_getElem?.mp hx
      obtain ⟨b, hb⟩ := List.mem_iff_getElem?.mp hy
      have q1 : inner T ((i : Int), (a : Int)) = some x := by rw [inner_at (List.getElem?_eq_getElem hi)]; exact ha
      have q2 : inner T ((j : Int), (b : Int)) = some x := by rw [inner_at (List.getElem?_eq_getElem hj)]; exact hb
      have := inj _ _ _ q1 q2
      injection this with z _
      omega
    refine List.pairwise_flatten.mpr ⟨fun l hl => ?_, pw⟩
    obtain ⟨i, hi⟩ := List.mem_iff_getElem?.mp hl
    exact row_nd i l hi
end
/-! ### a trimmed map is valid -/
section
variable {ds es : List Int} {T U : List (List Pl)} {i j : Nat} {row : List Pl} {d : Int} {p q x y : Pl}
theorem inner_gl (hl : T.length = ds.length) (h : inner T x = some y) : ∃ (i j : Nat) (row : List Pl), x = ((i : Int), (j : Int)) ∧ i < ds.length ∧ T[i]? = some row ∧ j < row.length ∧ gl ds T x = y := by
  obtain ⟨i, j, row, rfl, h1, h2⟩ := inner_some h
  obtain ⟨hi, _⟩ := List.getElem?_eq_some_iff.mp h1
  obtain ⟨hj, _⟩ := List.getElem?_eq_some_iff.mp h2
  exact ⟨i, j, row, rfl, hl ▸ hi, h1, hj, gl_in h1 h2⟩
theorem wid_le : ∀ {T U : List (List Pl)}, T.length = U.length → (∀ (i : Nat) a b, T[i]? = some a → U[i]? = some b → a.length ≤ b.length) → T.flatten.length ≤ U.flatten.length
  | [], _, _, _ => Nat.zero_le _
  | a :: T, [], h, _ => by cases h
  | a :: T, b :: U, h, hh => by
    have z1 := hh 0 a b rfl rfl
    have z2 := wid_le (T := T) (U := U) (by simpa using h) fun i x y hx hy => hh (i + 1) x y (by simpa using hx) (by simpa using hy)
    rw [List.flatten_cons, List.flatten_cons, List.length_append, List.length_append]; omega
/-- any rows with the same images as a valid map, no goal missing -/
theorem okm_same (o : Okm ds T) (hl : U.length = ds.length) (wid : U.flatten.length ≤ 2000) (he : ∀ p, isP ds.length p → gl ds U p = gl ds T p) : Okm ds U := by
  have hst : ∀ (i : Nat) row d, U[i]? = some row → ds[i]? = some d → 0 ≤ (row.length : Int) + d := fun i row d h hd => by
    obtain ⟨hi, _⟩ := List.getElem?_eq_some_iff.mp hd
    have e := he ((i : Int), (row.length : Int)) (isP_of hi)
    have z := gl_isP o (isP_of (j := row.length) hi)
    rw [← e, gl_out h (Nat.le_refl _) hd] at z
    exact z.2.2
  refine okm_of hl o.lo o.hi wid hst (fun i j row d h hd hj => ?_) (fun x y h => ?_) fun x x' y h h' => ?_
  · obtain ⟨hi, _⟩ := List.getElem?_eq_some_iff.mp hd
    obtain ⟨s1, s2⟩ := src_spec o (isP_of (j := j) hi)
    generalize srcOf ds T ((i : Int), (j : Int)) = x at s1 s2
    rw [← he x s1] at s2
    obtain ⟨i', j', rfl, hi'⟩ := isP_nat s1
    have g1 := List.getElem?_eq_getElem (hl ▸ hi' : i' < U.length)
    have g2 := List.getElem?_eq_getElem hi'
    generalize U[i'] = row' at g1
    generalize ds[i'] = d' at g2
    by_cases c : j' < row'.length
    · refine ⟨((i' : Int), (j' : Int)), ?_⟩
      rw [gl_in g1 (List.getElem?_eq_getElem c)] at s2
      rw [inner_at g1, List.getElem?_eq_getElem c, s2]
    · rw [gl_out g1 (by omega) g2] at s2
      injection s2 with e1 e2
      obtain rfl : i' = i := by omega
      rw [h] at g1; cases g1
      rw [hd] at g2; cases g2
      omega
  · obtain ⟨i, j, row, rfl, hi, h1, hj, hg⟩ := inner_gl hl h
    have z := gl_isP o (isP_of (j := j) hi)
    rw [← he _ (isP_of hi), hg] at z
    obtain ⟨i', j', rfl, hi'⟩ := isP_nat z
    have g1 := List.getElem?_eq_getElem (hl ▸ hi' : i' < U.length)
    have g2 := List.getElem?_eq_getElem hi'
    generalize U[i'] = row' at g1
    generalize ds[i'] = d' at g2
    refine ⟨i', j', row', d', rfl, g1, g2, ?_⟩
    refine Decidable.byContradiction fun c => ?_
    have z0 := hst i' row' d' g1 g2
    have e1 : gl ds U ((i' : Int), ((((j' : Int) - d').toNat : Nat) : Int)) = ((i' : Int), (j' : Int)) := by
      rw [gl_out g1 (by omega) g2]
      congr 1
      omega
    rw [he _ (isP_of hi')] at e1
    rw [he _ (isP_of hi)] at hg
    have := gl_inj o (isP_of hi') (isP_of hi) (e1.trans hg.symm)
    injection this with q1 q2
    obtain rfl : i' = i := by omega
    rw [h1] at g1; cases g1
    omega
  · obtain ⟨i, j, row, rfl, hi, h1, hj, hg⟩ := inner_gl hl h
    obtain ⟨i', j', row', rfl, hi', h1', hj', hg'⟩ := inner_gl hl h'
    rw [he _ (isP_of hi)] at hg
    rw [he _ (isP_of hi')] at hg'
    exact gl_inj o (isP_of hi) (isP_of hi') (hg.trans hg'.symm)
theorem Okm.trim (o : Okm ds T) : Okm ds (trimAll ds T) := by
  refine okm_same o ((trimAll_len ds T).trans o.len) ?_ fun p hp => gl_trim o.len hp
  refine Nat.le_trans (wid_le (trimAll_len ds T) fun i a b h1 h2 => ?_) o.wid
  obtain ⟨r, d, e1, _, rfl⟩ := trimAll_of o.len h1
  rw [h2] at e1; cases e1
  exact trimRow_len _ _ _
/-! ### the inverse -/
def invDs (ds : List Int) : List Int := ds.map fun d => -d
noncomputable def invRow (ds : List Int) (T : List (List Pl)) (i : Nat) : List Pl := (List.range (((T.getD i []).length : Int) + ds.getD i 0).toNat).map fun j => srcOf ds T ((i : Int), ((j : Nat) : Int))
noncomputable def invRows (ds : List Int) (T : List (List Pl)) : List (List Pl) := (List.range T.length).map (invRow ds T)
theorem invRow_len (h : T[i]? = some row) (hd : ds[i]? = some d) : (invRow ds T i).length = ((row.length : Int) + d).toNat := by
  unfold invRow
  rw [List.length_map, List.length_range, List.getD_eq_getElem?_getD, h, getD_of hd]; rfl
theorem invRow_get (h : j < (invRow ds T i).length) : (invRow ds T i)[j]? = some (srcOf ds T ((i : Int), (j : Int))) := by
  unfold invRow at h ⊢
  rw [List.length_map, List.length_range] at h
  rw [List.getElem?_map, List.getElem?_range h]; rfl
theorem invRows_len (ds : List Int) (T : List (List Pl)) : (invRows ds T).length = T.length := by
  unfold invRows; rw [List.length_map, List.length_range]
theorem invRows_get (h : i < T.length) : (invRows ds T)[i]? = some (invRow ds T i) := by
  unfold invRows; rw [List.getElem?_map, List.getElem?_range h]; rfl
theorem invDs_len (ds : List Int) : (invDs ds).length = ds.length := List.length_map _
theorem invDs_get (h : ds[i]? = some d) : (invDs ds)[i]? = some (-d) := by
  unfold invDs; rw [List.getElem?_map, h]; rfl
theorem invDs_inv (ds : List Int) : invDs (invDs ds) = ds := by
  unfold invDs
  rw [List.map_map]
  have : ((fun d : Int => -d) ∘ fun d => -d) = id := by funext d; show - -d = d; omega
  rw [this, List.map_id]
theorem gl_inv (o : Okm ds T) (h : isP ds.length y) : gl (invDs ds) (invRows ds T) y = srcOf ds T y := by
  obtain ⟨i, j, rfl, hi⟩ := isP_nat h
  obtain ⟨row, d, h1, h2⟩ := o.both hi
  have h3 := invRows_get (ds := ds) (o.len ▸ hi : i < T.length)
  by_cases c : j < (invRow ds T i).length
  · rw [gl_in h3 (invRow_get c)]
  · rw [gl_out h3 (by omega) (invDs_get h2)]
    rw [invRow_len h1 h2] at c
    have z := o.st i row d h1 h2
    -- the place in the tail that is mapped to it
    have e : gl ds T ((i : Int), ((((j : Int) - d).toNat : Nat) : Int)) = ((i : Int), (j : Int)) := by
      rw [gl_out h1 (by omega) h2]
      congr 1
      omega
    have q := src_gl o (isP_of (j := ((j : Int) - d).toNat) hi)
    rw [e] at q
    rw [q]
    congr 1
    omega
theorem Okm.inv (o : Okm ds T) : Okm (invDs ds) (invRows ds T) := by
  have hn : (invDs ds).length = ds.length := invDs_len ds
  have hl : (invRows ds T).length = (invDs ds).length := by rw [invRows_len, o.len, hn]
  have hrow : ∀ {i : Nat} {r : List Pl} {e : Int}, (invRows ds T)[i]? = some r → (invDs ds)[i]? = some e → ∃ row d, T[i]? = some row ∧ ds[i]? = some d ∧ r = invRow ds T i ∧ e = -d ∧ r.length = ((row.length : Int) + d).toNat ∧ 0 ≤ (row.length : Int) + d := fun {i r e} h1 h2 => by
    obtain ⟨hi, _⟩ := List.getElem?_eq_some_iff.mp h2
    rw [hn] at hi
    obtain ⟨row, d, g1, g2⟩ := o.both hi
    rw [invRows_get (o.len ▸ hi : i < T.length)] at h1
    cases h1
    rw [invDs_get g2] at h2
    cases h2
    exact ⟨row, d, g1, g2, rfl, rfl, invRow_len g1 g2, o.st i row d g1 g2⟩
  have hin : ∀ {y x : Pl}, inner (invRows ds T) y = some x → ∃ (i j : Nat) (row : List Pl) (d : Int), y = ((i : Int), (j : Int)) ∧ i < ds.length ∧ T[i]? = some row ∧ ds[i]? = some d ∧ (j : Int) < (row.length : Int) + d ∧ x = srcOf ds T y := fun {y x} h => by
    obtain ⟨i, j, r, rfl, h1, h2⟩ := inner_some h
    obtain ⟨hi, _⟩ := List.getElem?_eq_some_iff.mp h1
    rw [hl] at hi
    obtain ⟨row, d, g1, g2, rfl, _, g3, g4⟩ := hrow h1 (List.getElem?_eq_getElem hi)
    obtain ⟨hj, _⟩ := List.getElem?_eq_some_iff.mp h2
    rw [invRow_get hj] at h2
    cases h2
    exact ⟨i, j, row, d, rfl, hn ▸ hi, g1, g2, by omega, rfl⟩
  -- such a source is an inner place
  have hsrc : ∀ {i j : Nat} {row : List Pl} {d : Int}, T[i]? = some row → ds[i]? = some d → (j : Int) < (row.length : Int) + d → inner T (srcOf ds T ((i : Int), (j : Int))) = some ((i : Int), (j : Int)) := fun {i j row d} g1 g2 g3 => by
    rcases src_is ds T ((i : Int), (j : Int)) with z | ⟨z, _⟩
    · exact z
    · obtain ⟨x, hx⟩ := mem_inner ((o.mem ((i : Int), (j : Int))).mpr ⟨i, row, d, rfl, g1, g2, by show (0 : Int) ≤ j; omega, g3⟩)
      exact absurd hx (z x)
  have inj : ∀ y y' x, inner (invRows ds T) y = some x → inner (invRows ds T) y' = some x → y = y' := fun y y' x h h' => by
    obtain ⟨i, j, row, d, rfl, _, g1, g2, g3, e⟩ := hin h
    obtain ⟨i', j', row', d', rfl, _, g1', g2', g3', e'⟩ := hin h'
    have z := hsrc g1 g2 g3
    have z' := hsrc g1' g2' g3'
    rw [← e] at z
    rw [← e', z] at z'
    exact Option.some.inj z'
  refine okm_of hl (by rw [hn]; exact o.lo) (by rw [hn]; exact o.hi) ?_ (fun i r e h1 h2 => ?_) (fun i j r e h1 h2 h3 => ?_) (fun y x h => ?_) inj
  · refine Nat.le_trans (nodup_sub_len (m := (T.flatten.map (srcOf ds T))) (@okm_of.nodup_of_inj ds T _ inj) fun x hx => ?_) (by rw [List.length_map]; exact o.wid)
    obtain ⟨y, hy⟩ := mem_inner hx
    obtain ⟨i, j, row, d, rfl, _, g1, g2, g3, e⟩ := hin hy
    exact List.mem_map.mpr ⟨_, inner_mem (hsrc g1 g2 g3), e.symm⟩
  · obtain ⟨row, d, g1, g2, rfl, rfl, g3, g4⟩ := hrow h1 h2
    rw [g3]; omega
  · obtain ⟨row, d, g1, g2, rfl, rfl, g3, g4⟩ := hrow h1 h2
    obtain ⟨hi, _⟩ := List.getElem?_eq_some_iff.mp g2
    have hj : j < row.length := by rw [g3] at h3; omega
    -- (i, j) is an inner place of T; its image is where it is listed
    have hp := isP_of (j := j) hi
    have hm := Okm.in_row (ds := ds) g1 (List.getElem?_eq_getElem hj)
    obtain ⟨i', row', d', f1, f2, f3, f4, f5⟩ := (o.mem _).mp hm
    have eg : gl ds T ((i : Int), (j : Int)) = row[j] := gl_in g1 (List.getElem?_eq_getElem hj)
    have es := src_gl o hp
    rw [eg] at es
    generalize row[j] = y at hm f1 f4 f5 eg es
    obtain ⟨a, b⟩ := y
    have f1 : a = (i' : Int) := f1
    have f4 : 0 ≤ b := f4
    have f5 : b < (row'.length : Int) + d' := f5
    have eb : b = ((b.toNat : Nat) : Int) := by omega
    obtain ⟨hi', _⟩ := List.getElem?_eq_some_iff.mp f2
    refine ⟨((i' : Int), ((b.toNat : Nat) : Int)), ?_⟩
    rw [inner_at (invRows_get hi'), invRow_get (by rw [invRow_len f2 f3]; omega), ← eb, ← f1, es]
  · obtain ⟨i, j, row, d, rfl, _, g1, g2, g3, rfl⟩ := hin h
    obtain ⟨a, b, r, e1, e2, e3⟩ := inner_some (hsrc g1 g2 g3)
    obtain ⟨ha, _⟩ := List.getElem?_eq_some_iff.mp e2
    obtain ⟨hb, _⟩ := List.getElem?_eq_some_iff.mp e3
    have had : a < ds.length := o.len ▸ ha
    have gd := List.getElem?_eq_getElem had
    refine ⟨a, b, invRow ds T a, -ds[a], e1, invRows_get ha, invDs_get gd, ?_⟩
    rw [invRow_len e2 gd]
    have := o.st a r _ e2 gd
    omega
end
/-! ### the inverse of the inverse; compositions -/
section
variable {ds es : List Int} {T U : List (List Pl)} {i j : Nat} {row : List Pl} {d : Int} {p q x y : Pl}
noncomputable def invT (ds : List Int) (T : List (List Pl)) : List (List Pl) := trimAll (invDs ds) (invRows ds T)
theorem invT_len (o : Okm ds T) : (invT ds T).length = ds.length := by unfold invT; rw [trimAll_len, invRows_len, o.len]
theorem Okm.invT (o : Okm ds T) : Okm (invDs ds) (FK.invT ds T) := o.inv.trim
theorem gl_invT (o : Okm ds T) (h : isP ds.length y) : gl (invDs ds) (invT ds T) y = srcOf ds T y := by
  unfold invT
  rw [gl_trim o.inv.len (by rw [invDs_len]; exact h), gl_inv o h]
theorem invT_invT (o : Okm ds T) (ht : Trd ds T) : invT (invDs ds) (invT ds T) = T := by
  have o1 := o.invT
  have o2 := o1.invT
  have e0 : invDs (invDs ds) = ds := invDs_inv ds
  have hn : (invDs ds).length = ds.length := invDs_len ds
  refine canon (ds := ds) (by rw [invT_len o1, hn]) o.len ?_ ht fun p hp => ?_
  · have z := trimAll_trd (ds := invDs (invDs ds)) (T := invRows (invDs ds) (invT ds T)) o1.inv.len
    rw [e0] at z
    unfold invT at z ⊢
    rw [e0]
    exact z
  · have z := gl_invT o1 (y := p) (by rw [hn]; exact hp)
    rw [e0] at z
    rw [z]
    -- the source under the inverse of p is p's image
    have hq := gl_isP o hp
    have e : gl (invDs ds) (invT ds T) (gl ds T p) = p := by rw [gl_invT o hq, src_gl o hp]
    have s := src_gl o1 (p := gl ds T p) (by rw [hn]; exact hq)
    rw [e] at s
    exact s
def compDs (ds es : List Int) : List Int := (List.range ds.length).map fun (i : Nat) => ds.getD i 0 + es.getD i 0
def compRow (ds : List Int) (T : List (List Pl)) (es : List Int) (U : List (List Pl)) (i : Nat) : List Pl :=
  (List.range (max ((T.getD i []).length : Int) (((U.getD i []).length : Int) - ds.getD i 0)).toNat).map fun (a : Nat) => gl es U (gl ds T ((i : Int), (a : Int)))
def compRows (ds : List Int) (T : List (List Pl)) (es : List Int) (U : List (List Pl)) : List (List Pl) :=
  (List.range ds.length).map fun (i : Nat) => trimRow (i : Int) (ds.getD i 0 + es.getD i 0) (compRow ds T es U i)
theorem compDs_len (ds es : List Int) : (compDs ds es).length = ds.length := by unfold compDs; rw [List.length_map, List.length_range]
theorem compDs_get {e : Int} (h : ds[i]? = some d) (he : es[i]? = some e) : (compDs ds es)[i]? = some (d + e) := by
  obtain ⟨hi, _⟩ := List.getElem?_eq_some_iff.mp h
  unfold compDs
  rw [List.getElem?_map, List.getElem?_range hi]
  show some (ds.getD i 0 + es.getD i 0) = _
  rw [getD_of h, getD_of he]
theorem trimLen_all {l d : Int} {row : List Pl} (h : ∀ (k : Nat) (q : Pl), row[k]? = some q → q = (l, (k : Int) + d)) : ∀ n, n ≤ row.length → trimLen l d row n = 0
  | 0, _ => rfl
  | n + 1, hn => by
    unfold trimLen
    have hk : n < row.length := hn
    have z := h n _ (List.getElem?_eq_getElem hk)
    rw [if_pos (by rw [List.getElem?_eq_getElem hk, z])]
    exact trimLen_all h n (by omega)
theorem trimRow_all {l d : Int} {row : List Pl} (h : ∀ (k : Nat) (q : Pl), row[k]? = some q → q = (l, (k : Int) + d)) : trimRow l d row = [] := by
  unfold trimRow
  rw [trimLen_all h row.length (Nat.le_refl _), List.take_zero]
/-- two maps that undo one another -/
theorem comp_still (hs : ∀ i, ds.getD i 0 + es.getD i 0 = 0) (hg : ∀ p, isP ds.length p → gl es U (gl ds T p) = p) : compDs ds es = List.replicate ds.length 0 ∧ compRows ds T es U = List.replicate ds.length [] := by
  constructor
  · unfold compDs
    refine List.ext_getElem? fun i => ?_
    by_cases hi : i < ds.length
    · rw [List.getElem?_map, List.getElem?_range hi, List.getElem?_replicate, if_pos hi]
      show some (ds.getD i 0 + es.getD i 0) = _
      rw [hs]
    · rw [List.getElem?_eq_none_iff.mpr (by rw [List.length_map, List.length_range]; omega), List.getElem?_replicate, if_neg hi]
  · unfold compRows
    refine List.ext_getElem? fun i => ?_
    by_cases hi : i < ds.length
    · rw [List.getElem?_map, List.getElem?_range hi, List.getElem?_replicate, if_pos hi]
      show some (trimRow (i : Int) (ds.getD i 0 + es.getD i 0) (compRow ds T es U i)) = _
      rw [hs, trimRow_all fun k q hk => ?_]
      unfold compRow at hk
      obtain ⟨hlt, _⟩ := List.getElem?_eq_some_iff.mp hk
      rw [List.length_map, List.length_range] at hlt
      rw [List.getElem?_map, List.getElem?_range hlt] at hk
      have hk : some (gl es U (gl ds T ((i : Int), (k : Int)))) = some q := hk
      rw [hg _ (isP_of hi)] at hk
      rw [← Option.some.inj hk]
      show ((i : Int), (k : Int)) = ((i : Int), (k : Int) + 0)
      rw [Int.add_zero]
    · rw [List.getElem?_eq_none_iff.mpr (by rw [List.length_map, List.length_range]; omega), List.getElem?_replicate, if_neg hi]
theorem getD_inv (ds : List Int) (i : Nat) : (invDs ds).getD i 0 = - ds.getD i 0 := by
  rw [List.getD_eq_getElem?_getD, List.getD_eq_getElem?_getD]
  unfold invDs
  rw [List.getElem?_map]
  cases ds[i]? <;> rfl
theorem comp_inv (o : Okm ds T) : compDs ds (invDs ds) = List.replicate ds.length 0 ∧ compRows ds T (invDs ds) (invT ds T) = List.replicate ds.length [] :=
  comp_still (fun i => by rw [getD_inv]; omega) fun p hp => by rw [gl_invT o (gl_isP o hp), src_gl o hp]
theorem comp_inv' (o : Okm ds T) : compDs (invDs ds) ds = List.replicate ds.length 0 ∧ compRows (invDs ds) (invT ds T) ds T = List.replicate ds.length [] := by
  have z := comp_still (ds := invDs ds) (es := ds) (T := invT ds T) (U := T) (fun i => by rw [getD_inv]; omega) fun p hp => by
    rw [invDs_len] at hp
    rw [gl_invT o hp]
    exact (src_spec o hp).2
  rw [invDs_len] at z
  exact z
theorem flatten_nils : ∀ n : Nat, (List.replicate n ([] : List Pl)).flatten = []
  | 0 => rfl
  | n + 1 => by rw [List.replicate_succ, List.flatten_cons, flatten_nils n]; rfl
theorem okm_still {n : Nat} (h1 : 1 ≤ n) (h6 : n ≤ 6) : Okm (List.replicate n 0) (List.replicate n []) := by
  have nil : ∀ {i : Nat} {row : List Pl}, (List.replicate n ([] : List Pl))[i]? = some row → row = [] := fun {i row} h => by
    rw [List.getElem?_replicate] at h
    split at h
    · exact (Option.some.inj h).symm
    · cases h
  have zero : ∀ {i : Nat} {d : Int}, (List.replicate n (0 : Int))[i]? = some d → d = 0 := fun {i d} h => by
    rw [List.getElem?_replicate] at h
    split at h
    · exact (Option.some.inj h).symm
    · cases h
  refine ⟨by rw [List.length_replicate, List.length_replicate], by rw [List.length_replicate]; exact h1, by rw [List.length_replicate]; exact h6, by rw [flatten_nils]; exact Nat.zero_le _, fun i row d h hd => ?_, fun p => ?_, by rw [flatten_nils]; exact List.nodup_nil⟩
  · rw [nil h, zero hd]; simp
  · rw [flatten_nils]
    refine ⟨fun h => (by cases h), fun ⟨i, row, d, _, g2, g3, g4, g5⟩ => ?_⟩
    rw [nil g2, zero g3] at g5
    have g5 : p.2 < ((0 : Nat) : Int) + 0 := g5
    omega
theorem trim_still (n : Nat) : trimAll (List.replicate n 0) (List.replicate n []) = List.replicate n [] := by
  refine List.ext_getElem? fun i => ?_
  by_cases hi : i < n
  · rw [trimAll_get (row := []) (d := 0) (by rw [List.getElem?_replicate, if_pos hi]) (by rw [List.getElem?_replicate, if_pos hi]), List.getElem?_replicate, if_pos hi]; rfl
  · rw [List.getElem?_eq_none_iff.mpr (by rw [trimAll_len, List.length_replicate]; omega), List.getElem?_replicate, if_neg hi]
end
end L2.FK
namespace L2.FK
open PySem PySem.Spec PyProof.Rows L2.FL
def HasM (K : PySem.W.Frag) (C : Addr) (m qual : Str) (st : Stmt) (ps : List Str) : Prop := ∃ f fd, Meth K C m f ∧ C8.Fun K m qual st f fd ∧ Binds K fd ps []
section
variable {P : Program} {w : World} {K : PySem.W.Frag} {mg : Str → Option Value} {base : Heap} {C : Addr}
theorem met_of {m qual : Str} {st : Stmt} {N ps : List Str} {k : Nat} {sp : Sp} (T : Tx K mg C) (h : HasM K C m qual st ps) (S : FnScope N ps (C8.fnScope st)) (len : ∀ vs H Q E, sp vs H Q E → vs.length = ps.length)
    (hbody : ∀ (f : Addr) (cdv : Value) (A : Around) (outer : List Env) (s : Shared) (H : Hp) (vs : List V) (Q : VK) (E : XK), Room k (A.deeper (envOfC qual (C8.fnScope st) s.heap.objs.size f cdv)) → sp vs H Q E →
      ∃ t, PSs (cxOf C8.CX0 P w K mg base N qual (C8.fnScope st) f cdv A outer s H E).nox (C8.fnBody st) t ∧ t { nx := fun _ H' => Q .non H', rt := Q } (start N vs) H) : C8.Met P w K mg base (k + 1) C m sp [] := by
  obtain ⟨f, fd, me, F, b⟩ := h
  exact C8.met0 T.cl me F b S len fun cdv A outer s H vs Q E hr hs => hbody f cdv A outer s H vs Q E hr hs
/-! ### lanes, drifts -/
def spLanes (C : Addr) : Sp := fun vs H Q _ => ∃ (v : V) (ds : List Int) (T : List (List Pl)), vs = [v] ∧ LMap C H v ds T ∧ Q (.int ds.length) H
theorem sc_la : FnScope ["self"] ["self"] (C8.fnScope (inClass sMap 1)) := C8.fnScope_by (by decide +kernel)
theorem ok_lanes (X : Tx K mg C) (B : Bl mg) (h : HasM K C "lanes" "LaneMap.lanes" (inClass sMap 1) ["self"]) : C8.Met P w K mg base 1 C "lanes" (spLanes C) [] := by
  refine met_of X h sc_la (fun vs H Q E z => ?_) (fun f cdv A outer s H vs Q E hr z => ?_)
  · obtain ⟨v, ds, T, rfl, _⟩ := z; rfl
  obtain ⟨v, ds, T, rfl, ⟨p, dx, a1, v2, a3, a4, im, og, rfl, h1, h2, h3, h4, h5, h6, h7⟩, q⟩ := z
  refine ⟨_, pss_one (ps_ret (pe_callB call_len_seq (by rfl) B.len bt_len (pa_cons (pe_fld (pv 0) rfl) pa_nil))), ?_⟩
  refine ⟨_, rfl, p, C, dx, _, _, rfl, h1, X.cl, X.nS, fl_shifts _ _ _ _, a1, _, rfl, .inl (SqL.of h2), ?_⟩
  rw [List.length_map]; exact q
def spDr (C : Addr) : Sp := fun vs H Q _ => ∃ (v : V) (ds : List Int) (T : List (List Pl)), vs = [v] ∧ LMap C H v ds T ∧ ∀ b, H b = none → Q (.ref b) (upd H b (.lst (ds.map V.int)))
theorem sc_dr : FnScope ["self"] ["self"] (C8.fnScope (inClass sMap 2)) := C8.fnScope_by (by decide +kernel)
theorem ok_drifts (X : Tx K mg C) (B : Bl mg) (h : HasM K C "drifts" "LaneMap.drifts" (inClass sMap 2) ["self"]) : C8.Met P w K mg base 1 C "drifts" (spDr C) [] := by
  refine met_of X h sc_dr (fun vs H Q E z => ?_) (fun f cdv A outer s H vs Q E hr z => ?_)
  · obtain ⟨v, ds, T, rfl, _⟩ := z; rfl
  obtain ⟨v, ds, T, rfl, ⟨p, dx, a1, v2, a3, a4, im, og, rfl, h1, h2, h3, h4, h5, h6, h7⟩, q⟩ := z
  refine ⟨_, pss_one (ps_ret (pe_callTy (c_list K) (by rfl) B.list bt_list (pa_cons (pe_fld (pv 0) rfl) pa_nil))), ?_⟩
  exact ⟨_, rfl, p, C, dx, _, _, rfl, h1, X.cl, X.nS, fl_shifts _ _ _ _, a1, _, rfl, .inl (SqL.of h2), fun l hl => q l hl⟩
/-! ### bounds, goals -/
def spBd (C : Addr) : Sp := fun vs H Q _ => ∃ (v : V) (ds : List Int) (T : List (List Pl)), vs = [v] ∧ LMap C H v ds T ∧ T.length ≤ 6 ∧ ∀ b, H b = none → Q (.ref b) (upd H b (.lst ((T.map fun r => ((r.length : Nat) : Int)).map V.int)))
theorem sc_bd : FnScope ["self", "row"] ["self"] (C8.fnScope (inClass sMap 3)) := C8.fnScope_by (by decide +kernel)
theorem ok_bounds (X : Tx K mg C) (B : Bl mg) (h : HasM K C "bounds" "LaneMap.bounds" (inClass sMap 3) ["self"]) : C8.Met P w K mg base 1 C "bounds" (spBd C) [] := by
  refine met_of X h sc_bd (fun vs H Q E z => ?_) (fun f cdv A outer s H vs Q E hr z => ?_)
  · obtain ⟨v, ds, T, rfl, _⟩ := z; rfl
  obtain ⟨v, ds, T, rfl, ⟨p, dx, a1, v2, a3, a4, im, og, rfl, h1, h2, ⟨b, ws, rfl, hb, hp⟩, h4, h5, h6, h7⟩, h66, q⟩ := z
  have hl := paired_len hp
  refine ⟨_, pss_one (ps_ret (pe_lc (own := [("row", 1)]) (g := gName 1) (tt := tYes) rfl sc_bd.nd (pi_list (pe_fld (pv 0) rfl)) (blkOk_by (own := [("row", 1)]) (N := ["self", "row"]) (sc := C8.fnScope (inClass sMap 3)) (by decide +kernel))
    (fun _ _ _ _ _ => pg_name (i := 1) sc_bd.nd rfl (Or.inl rfl)) (fun _ _ _ _ _ => pts_nil) (fun _ _ _ _ _ => pe_callB (c_len K) (by rfl) B.len bt_len (pa_cons (pv 1) pa_nil)))), ?_⟩
  refine ⟨_, rfl, p, C, dx, _, _, rfl, h1, X.cl, X.nR, fl_rows _ _ _ _, b, rfl, ⟨_, SqL.of hb⟩, fun D hD => ?_⟩
  refine lc_it (walk_list (K := K) (a := b) (xs := ws)) (fun i H' => H' = upd H D (.lst ((T.take i).map fun x => V.int (x.length : Nat)))) (by rw [List.take_zero]; rfl) ?_ ?_ ?_
  · rintro i H' _ rfl; exact SqL.of (by rw [upd_ne (ne_of_none hb hD)]; exact hb)
  · rintro i x H2 H3 hi rfl ⟨rfl, hx⟩
    obtain ⟨row, hrow, c, us, rfl, hc, hus⟩ := paired_get hp i hx
    refine ⟨rfl, _, rfl, c, us, rfl, .inl (SqL.of (by rw [upd_ne (ne_of_none hc hD)]; exact hc)), _, upd_same, snoc_le (by rw [List.length_map, List.length_take]; omega), ?_⟩
    rw [upd_upd, take_snoc hrow, List.map_append, paired_len hus]; rfl
  · rintro H2 rfl
    rw [hl, List.take_length]
    have e2 : (T.map fun x => V.int (x.length : Nat)) = (T.map fun x => ((x.length : Nat) : Int)).map V.int := by rw [List.map_map]; rfl
    rw [e2]
    exact q D hD
def spGs (C : Addr) : Sp := fun vs H Q _ => ∃ (v : V) (ds : List Int) (T : List (List Pl)), vs = [v] ∧ LMap C H v ds T ∧ T.length ≤ 6 ∧ ∀ b H', H b = none → Same H H' → RowsAt H' (.ref b) T → Q (.ref b) H'
theorem sc_gs : FnScope ["self", "row"] ["self"] (C8.fnScope (inClass sMap 4)) := C8.fnScope_by (by decide +kernel)
theorem ok_goals (X : Tx K mg C) (B : Bl mg) (h : HasM K C "goals" "LaneMap.goals" (inClass sMap 4) ["self"]) : C8.Met P w K mg base 1 C "goals" (spGs C) [] := by
  refine met_of X h sc_gs (fun vs H Q E z => ?_) (fun f cdv A outer s H vs Q E hr z => ?_)
  · obtain ⟨v, ds, T, rfl, _⟩ := z; rfl
  obtain ⟨v, ds, T, rfl, ⟨p, dx, a1, v2, a3, a4, im, og, rfl, h1, h2, ⟨b, ws, rfl, hb, hp⟩, h4, h5, h6, h7⟩, h66, q⟩ := z
  have hl := paired_len hp
  refine ⟨_, pss_one (ps_ret (pe_lc (own := [("row", 1)]) (g := gName 1) (tt := tYes) rfl sc_gs.nd (pi_list (pe_fld (pv 0) rfl)) (blkOk_by (own := [("row", 1)]) (N := ["self", "row"]) (sc := C8.fnScope (inClass sMap 4)) (by decide +kernel))
    (fun _ _ _ _ _ => pg_name (i := 1) sc_gs.nd rfl (Or.inl rfl)) (fun _ _ _ _ _ => pts_nil) (fun _ _ _ _ _ => pe_callTy (c_list K) (by rfl) B.list bt_list (pa_cons (pv 1) pa_nil)))), ?_⟩
  refine ⟨_, rfl, p, C, dx, _, _, rfl, h1, X.cl, X.nR, fl_rows _ _ _ _, b, rfl, ⟨_, SqL.of hb⟩, fun D hD => ?_⟩
  refine lc_it (walk_list (K := K) (a := b) (xs := ws)) (fun i H' => Same H (del D H') ∧ ∃ us, H' D = some (.lst us) ∧ Paired (RowAt (del D H')) us (T.take i)) ?_ ?_ ?_ ?_
  · exact ⟨by rw [del_upd]; exact same_del (Same.refl _) hD, [], upd_same, by rw [List.take_zero]; exact .nil⟩
  · rintro i H' _ ⟨s', _⟩; exact SqL.of (del_same _ _ (s' _ _ hb))
  · rintro i x H1 H2 hi ⟨s', us, hu, hp'⟩ ⟨rfl, hx⟩
    obtain ⟨row, hrow, c, xs, rfl, hc, hw⟩ := paired_get hp i hx
    refine ⟨rfl, _, rfl, c, _, rfl, .inl (SqL.of (del_same _ _ (s' _ _ hc))), fun l hl' => ?_⟩
    have nl : l ≠ D := (ne_of_none hu hl').symm
    refine ⟨us, by rw [upd_ne nl.symm]; exact hu, snoc_le (by rw [paired_len hp', List.length_take]; omega), ?_⟩
    have ed : del D (upd (upd H2 l (.lst xs)) D (.lst (us ++ [.ref l]))) = upd (del D H2) l (.lst xs) := by rw [del_upd, del_upd_ne nl]
    have sn : Same (del D H2) (upd (del D H2) l (.lst xs)) := same_new (none_del hl') _
    refine ⟨by rw [ed]; exact s'.trans sn, _, upd_same, ?_⟩
    rw [ed, take_snoc hrow]
    exact paired_snoc (rows_mono sn hp') ⟨l, xs, rfl, upd_same, pls_mono (s'.trans sn) hw⟩
  · rintro H' ⟨s', us, hu, hp'⟩
    rw [hl, List.take_length] at hp'
    exact q _ _ hD (s'.trans del_same) ⟨D, us, rfl, hu, rows_mono del_same hp'⟩
/-! ### goal -/
def spGoal (C : Addr) : Sp := fun vs H Q _ => ∃ (v u : V) (ds : List Int) (T : List (List Pl)) (p : Pl), vs = [v, u] ∧ LMap C H v ds T ∧ PlAt H u p ∧ isPl (ds.length : Nat) p = true ∧ ∀ r H', Same H H' → PlAt H' r (gl ds T p) → Q r H'
theorem isPl_of {n : Int} {p : Pl} (h : isPl n p = true) : 0 ≤ p.1 ∧ p.1 < n ∧ 0 ≤ p.2 := by
  unfold isPl at h
  simp only [Bool.and_eq_true, decide_eq_true_eq] at h
  exact ⟨h.1, h.2.1, h.2.2⟩
end
end L2.FK
namespace L2.FK
open PySem PySem.Spec PyProof.Rows L2.FL
section
variable {P : Program} {w : World} {K : PySem.W.Frag} {mg : Str → Option Value} {base : Heap}
/-! ### _law_drifts -/
theorem ixN_nat' {n i : Nat} (h : i < n) : ixN n (i : Int) = some i := by
  unfold ixN
  rw [if_pos (by omega), if_pos (by omega), Int.toNat_natCast]
theorem rep_flat' (n : Nat) (v : V) : (List.replicate n [v]).flatten = List.replicate n v := by
  induction n with
  | zero => rfl
  | succ n ih => rw [List.replicate_succ, List.flatten_cons, ih, List.replicate_succ]; rfl
abbrev nDr : List Str := ["_law_bag_here", "_law_wide", "_law_steps", "_law_drifts_here", "_law_step", "_law_one", "_law_other"]
def spDrf : Sp := fun vs H Q _ => ∃ (b sa : Addr) (n : Nat) (st : Int), vs = [.ref b, .int n, .int st] ∧ BagAt H b sa ∧ 1 ≤ n ∧ n ≤ 6 ∧ 0 ≤ st ∧ st ≤ 1000 ∧
  ∀ v H' ds, Same (del b H) (del b H') → BagAt H' b sa → IntsAt H' v ds → ds.length = n → (∀ d ∈ ds, -6 ≤ d ∧ d ≤ 6) → ds.sum = 0 → (∀ d ∈ ds, -st ≤ d ∧ d ≤ st) → Q v H'
theorem sc_drf : FnScope nDr ["_law_bag_here", "_law_wide", "_law_steps"] (C8.fnScope sDrifts) := C8.fnScope_by (by decide +kernel)
theorem mem_set {l : List Int} {i : Nat} {x y : Int} (h : y ∈ l.set i x) : y = x ∨ y ∈ l := by
  rcases List.mem_or_eq_of_mem_set h with h | h
  · exact .inr h
  · exact .inl h
theorem ok_drf (h : Has K mg "_law_drifts" sDrifts ["_law_bag_here", "_law_wide", "_law_steps"]) (B : Bl mg) (c : C8.Cal P w K mg base 1 "_law_pull" spPull []) : C8.Cal P w K mg base 2 "_law_drifts" spDrf [] := by
  refine cal_of h sc_drf (fun vs H Q E z => ?_) (fun f cdv A outer s H vs Q E hr z => ?_)
  · obtain ⟨b, sa, n, st, rfl, _⟩ := z; rfl
  obtain ⟨b, sa, n, st, rfl, hB, h1, h6, h0, h9, q⟩ := z
  have nd := sc_drf.nd
  refine ⟨_, pss_cons (ps_set (i := 3) nd rfl (.inl rfl) (pe_op op_rep (pe_lst (pa_cons pe_int pa_nil)) (pv 1)))
    (pss_cons (ps_for PassesOwn.never rfl (pi_range1 rfl B.range (pa_cons (C8.pe_c c hr (by decide) rfl (pa_cons (pv 0) (pa_cons (pe_op op_add (pv 2) pe_int) pa_nil))) pa_nil)) (pg_name (i := 4) nd rfl (.inl rfl))
      (pss_cons (ps_par (i := 5) (j := 6) (by rfl) nd rfl rfl (by decide) rfl rfl (pa_cons (C8.pe_c c hr (by decide) rfl (pa_cons (pv 0) (pa_cons (pv 1) pa_nil))) (pa_cons (C8.pe_c c hr (by decide) rfl (pa_cons (pv 0) (pa_cons (pv 1) pa_nil))) pa_nil)) (by rfl))
      (pss_one (ps_if (PW.pt (pw_and (pt_cmpR op_gt (pe_ix ix_list (pv 3) (pv 5) (fun _ _ => rfl)) (pe_un un_neg pe_int) (nomark _)) (pw_and1 (pt_cmpR op_lt (pe_ix ix_list (pv 3) (pv 6) (fun _ _ => rfl)) pe_int (nomark _)))))
        (pss_cons (ps_asg (pe_op op_sub (pe_ix ix_list (pv 3) (pv 5) (fun _ _ => rfl)) pe_int) (pg_sub (pv 3) (pv 5) set_list))
        (pss_one (ps_asg (pe_op op_add (pe_ix ix_list (pv 3) (pv 6) (fun _ _ => rfl)) pe_int) (pg_sub (pv 3) (pv 6) set_list)))) pss_nil))))
    (pss_one (ps_ret (pv 3)))), ?_⟩
  refine ⟨(by show 1 ≤ sizeLine; decide), fun l0 hl0 => ?_⟩
  have s0 := same_new hl0 (.lst [.int 0])
  have g0 : upd H l0 (.lst [.int 0]) l0 = _ := upd_same
  generalize upd H l0 (.lst [.int 0]) = H0 at s0 g0
  refine ⟨_, rfl, l0, _, _, rfl, rfl, g0, by omega, by omega, le_line (by rw [Int.toNat_natCast]; show 1 * n ≤ _; omega), fun a ha => ?_⟩
  rw [Int.toNat_natCast, rep_flat', show List.replicate n (V.int 0) = (List.replicate n (0 : Int)).map V.int by rw [List.map_replicate]]
  obtain ⟨nb, ns⟩ := (hB.mono s0).old ha
  have dab : ∀ {H' : Hp} {o : HO}, del a (del b (upd H' a o)) = del a (del b H') := fun {H' o} => by rw [del_del, del_upd, del_del]
  have sA : Same (del b H) (del a (del b (upd H0 a (.lst ((List.replicate n (0 : Int)).map V.int))))) := by
    rw [dab]; exact same_del (same_dels s0) (none_del (s0.free ha))
  have bA := (hB.mono s0).put (o := .lst ((List.replicate n (0 : Int)).map V.int)) nb ns
  have gA : upd H0 a (.lst ((List.replicate n (0 : Int)).map V.int)) a = some (.lst ((List.replicate n (0 : Int)).map V.int)) := upd_same
  generalize upd H0 a (.lst ((List.replicate n (0 : Int)).map V.int)) = H1 at sA bA gA
  -- behind a draw
  have pulled : ∀ {H2 H3 : Hp} {ds : List Int}, Same (del b H) (del a (del b H2)) → H2 a = some (.lst (ds.map V.int)) → Same (del b H2) (del b H3) → Same (del b H) (del a (del b H3)) ∧ H3 a = some (.lst (ds.map V.int)) := fun {H2 H3 ds} s2 g2 s3 =>
    ⟨s2.trans (same_dels s3), by have := s3 _ _ (show del b H2 a = _ by rw [del_ne nb.symm]; exact g2); rw [del_ne nb.symm] at this; exact this⟩
  refine ⟨_, rfl, _, rfl, _, _, rfl, rfl, b, sa, _, rfl, bA, by omega, by omega, fun r H2 r0 r1 s2 b2 => ?_⟩
  obtain ⟨s2, g2⟩ := pulled sA gA s2
  refine ⟨_, rfl, by omega, by omega, ?_⟩
  refine for_it (walk_range (lo := 0) (n := r.toNat)) (fun i σ H' => Same (del b H) (del a (del b H')) ∧ BagAt H' b sa ∧ (∃ ds : List Int, H' a = some (.lst (ds.map V.int)) ∧ ds.length = n ∧ (∀ d ∈ ds, -6 ≤ d ∧ d ≤ 6) ∧ ds.sum = 0 ∧ (∀ d ∈ ds, -(i : Int) ≤ d ∧ d ≤ (i : Int))) ∧ ∃ x4 x5 x6, σ = [some (.ref b), some (.int n), some (.int st), some (.ref a), x4, x5, x6])
    ⟨s2, b2, ⟨_, g2, by rw [List.length_replicate], fun d hd => by rw [List.eq_of_mem_replicate hd]; decide, by rw [List.sum_replicate_int]; simp, fun d hd => by rw [List.eq_of_mem_replicate hd]; decide⟩, _, _, _, rfl⟩ ?_ ?_ ?_
  · rintro i σ H' _ _; trivial
  · rintro i x σ H3 H4 hi ⟨s3, b3, ⟨ds, g3, hdl, hdb, hds, hdi⟩, x4, x5, x6, rfl⟩ ⟨rfl, rfl⟩
    refine ⟨_, rfl, _, rfl, b, sa, _, rfl, b3, by omega, by omega, fun r1 H5 r10 r11 s5 b5 => ?_⟩
    obtain ⟨s5, g5⟩ := pulled s3 g3 s5
    refine ⟨_, rfl, _, rfl, b, sa, _, rfl, b5, by omega, by omega, fun r2 H6 r20 r21 s6 b6 => ?_⟩
    obtain ⟨s6, g6⟩ := pulled s5 g5 s6
    obtain ⟨k1, rfl⟩ : ∃ k : Nat, r1 = k := ⟨r1.toNat, by omega⟩
    obtain ⟨k2, rfl⟩ : ∃ k : Nat, r2 = k := ⟨r2.toNat, by omega⟩
    have hk1 : k1 < ds.length := by omega
    have hk2 : k2 < ds.length := by omega
    have e1 := List.getElem?_eq_getElem hk1
    have e2 := List.getElem?_eq_getElem hk2
    have at1 : atI (ds.map V.int) (k1 : Int) = some (.int ds[k1]) := atI_nat (by rw [List.getElem?_map, e1]; rfl)
    have at2 : atI (ds.map V.int) (k2 : Int) = some (.int ds[k2]) := atI_nat (by rw [List.getElem?_map, e2]; rfl)
    have stay : Same (del b H) (del a (del b H6)) ∧ BagAt H6 b sa ∧ (∃ ds : List Int, H6 a = some (.lst (ds.map V.int)) ∧ ds.length = n ∧ (∀ d ∈ ds, -6 ≤ d ∧ d ≤ 6) ∧ ds.sum = 0 ∧ (∀ d ∈ ds, -((i + 1 : Nat) : Int) ≤ d ∧ d ≤ ((i + 1 : Nat) : Int))) := ⟨s6, b6, ds, g6, hdl, hdb, hds, fun d hd => by have := hdi d hd; omega⟩
    refine ⟨_, _, rfl, ?_⟩
    refine ⟨_, rfl, _, rfl, a, _, _, _, rfl, rfl, SqL.of g6, at1, _, rfl, _, _, rfl, rfl, _, rfl, ?_⟩
    by_cases c1 : (-6 : Int) < ds[k1]
    · rw [decide_eq_true (show (fun i => -i) (6 : Int) < ds[k1] from c1)]
      refine iteT ⟨_, rfl, _, rfl, a, _, _, _, rfl, rfl, SqL.of g6, at2, _, _, rfl, rfl, _, rfl, ?_⟩
      by_cases c2 : ds[k2] < 6
      · rw [decide_eq_true c2]
        refine iteT ⟨_, rfl, _, rfl, a, _, _, _, rfl, rfl, SqL.of g6, at1, _, _, rfl, rfl, _, rfl, _, rfl, a, _, _, k1, rfl, rfl, g6, ixN_nat' (by rw [List.length_map]; exact hk1), ?_⟩
        have em : (ds.map V.int).set k1 (.int (ds[k1] - 1)) = (ds.set k1 (ds[k1] - 1)).map V.int := List.map_set.symm
        have hk2' : k2 < (ds.set k1 (ds[k1] - 1)).length := by rw [List.length_set]; exact hk2
        have e3 := List.getElem?_eq_getElem hk2'
        generalize hds1 : ds.set k1 (ds[k1] - 1) = ds1 at em hk2' e3
        have sum1 : ds1.sum = ds.sum - ds[k1] + (ds[k1] - 1) := by rw [← hds1]; exact sum_set e1
        have lo1 : ∀ d ∈ ds1, -6 ≤ d ∧ d ≤ 6 := fun d hd => by
          rw [← hds1] at hd
          rcases mem_set hd with e | e
          · have := hdb _ (List.getElem_mem hk1); omega
          · exact hdb d e
        have lo2 : ∀ d ∈ ds1, -((i + 1 : Nat) : Int) ≤ d ∧ d ≤ (i : Int) := fun d hd => by
          rw [← hds1] at hd
          rcases mem_set hd with e | e
          · have := hdi _ (List.getElem_mem hk1); omega
          · have := hdi d e; omega
        have le1 : ds1[k2] < 6 := by
          have : ds1[k2] = (if k1 = k2 then ds[k1] - 1 else ds[k2]) := by simp only [← hds1, List.getElem_set]
          rw [this]
          split
          · have := hdb _ (List.getElem_mem hk1); omega
          · exact c2
        refine ⟨_, rfl, _, rfl, a, _, _, V.int ds1[k2], rfl, rfl, SqL.of upd_same, ?_, _, _, rfl, rfl, _, rfl, _, rfl, a, _, _, k2, rfl, rfl, upd_same, ixN_nat' (by rw [List.length_set, List.length_map]; exact hk2), ?_⟩
        · have : atI (ds1.map V.int) (k2 : Int) = some (V.int ds1[k2]) := atI_nat (by rw [List.getElem?_map, e3]; rfl)
          rw [← em] at this
          exact this
        · rw [upd_upd]
          have em2 : ((ds.map V.int).set k1 (.int (ds[k1] - 1))).set k2 (.int (ds1[k2] + 1)) = (ds1.set k2 (ds1[k2] + 1)).map V.int := by rw [em]; exact List.map_set.symm
          refine ⟨by rw [dab]; exact s6, b6.put nb ns, ⟨ds1.set k2 (ds1[k2] + 1), ?_, by rw [List.length_set, ← hds1, List.length_set]; exact hdl, fun d hd => ?_, ?_, fun d hd => ?_⟩, _, _, _, rfl⟩
          · rw [upd_same, ← em2]
          · rcases mem_set hd with e | e
            · have := lo1 _ (List.getElem_mem hk2'); omega
            · exact lo1 d e
          · rw [sum_set e3, sum1, hds]; omega
          · rcases mem_set hd with e | e
            · have := lo2 _ (List.getElem_mem hk2'); omega
            · have := lo2 d e; omega
      · rw [decide_eq_false c2]
        exact iteF ⟨stay.1, stay.2.1, stay.2.2, _, _, _, rfl⟩
    · rw [decide_eq_false (show ¬ (fun i => -i) (6 : Int) < ds[k1] from c1)]
      exact iteF ⟨stay.1, stay.2.1, stay.2.2, _, _, _, rfl⟩
  · rintro σ H3 ⟨s3, b3, ⟨ds, g3, hdl, hdb, hds, hdi⟩, x4, x5, x6, rfl⟩
    exact ⟨_, rfl, q _ _ ds (s3.trans del_same) b3 ⟨a, rfl, g3⟩ hdl hdb hds fun d hd => by have := hdi d hd; omega⟩
end
end L2.FK
namespace L2.FK
open PySem PySem.Spec PyProof.Rows L2.FL
section
variable {P : Program} {w : World} {K : PySem.W.Frag} {mg : Str → Option Value} {base : Heap} {C : Addr}
/-! ### _law_least -/
abbrev nLs : List Str := ["_law_d", "_law_goals", "_law_row", "_law_size"]
def spLeast : Sp := fun vs H Q _ => ∃ (v : V) (ds : List Int) (rows : List (List Pl)), vs = [v] ∧ DAt H v ds rows ∧ rows.length = ds.length ∧ ds.length ≤ 6 ∧ ∀ r H', Same H H' → DAt H' r ds (trimAll ds rows) → Q r H'
theorem sc_ls : FnScope nLs ["_law_d"] (C8.fnScope sLeast) := C8.fnScope_by (by decide +kernel)
theorem ok_least (h : Has K mg "_law_least" sLeast ["_law_d"]) (B : Bl mg) : C8.Cal P w K mg base 1 "_law_least" spLeast [] := by
  refine cal_of h sc_ls (fun vs H Q E z => ?_) (fun f cdv A outer s H vs Q E hr z => ?_)
  · obtain ⟨v, ds, rows, rfl, _⟩ := z; rfl
  obtain ⟨v, ds, rows, rfl, ⟨dt, v1, v2, rfl, hdt, ⟨a1, rfl, h1⟩, ⟨a2, ws, rfl, h2, hp⟩⟩, hlen, h6, q⟩ := z
  have nd := sc_ls.nd
  have hwl := paired_len hp
  have d0 : ∀ {H' : Hp}, H' dt = some (.tup [.ref a1, .ref a2]) → SqT K H' dt [.ref a1, .ref a2] := fun e => .inl (.inl e)
  refine ⟨_, pss_cons (ps_set (i := 1) nd rfl (.inl rfl) (pe_lst pa_nil))
    (pss_cons (ps_for PassesOwn.never rfl (pi_range1 rfl B.range (pa_cons (pe_callB call_len_seq (by rfl) B.len bt_len (pa_cons (pe_ix ix_tup (pv 0) pe_int (fun _ _ => rfl)) pa_nil)) pa_nil)) (pg_name (i := 2) nd rfl (.inl rfl))
      (pss_cons (ps_set (i := 3) nd rfl (.inl rfl) (pe_callB call_len_seq (by rfl) B.len bt_len (pa_cons (pe_ix ix_list (pe_ix ix_tup (pv 0) pe_int (fun _ _ => rfl)) (pv 2) (fun _ _ => rfl)) pa_nil)))
      (pss_cons (ps_while PassesOwn.never (PW.pt (pw_and (pt_cmpR op_gt (pv 3) pe_int (nomark _)) (pw_and1 (pt_cmpR (op_eqD hr.units)
          (pe_ix ix_list (pe_ix ix_list (pe_ix ix_tup (pv 0) pe_int (fun _ _ => rfl)) (pv 2) (fun _ _ => rfl)) (pe_op op_sub (pv 3) pe_int) (fun _ _ => rfl))
          (pe_tup (pa_cons (pv 2) (pa_cons (pe_op op_add (pe_op op_sub (pv 3) pe_int) (pe_ix ix_list (pe_ix ix_tup (pv 0) pe_int (fun _ _ => rfl)) (pv 2) (fun _ _ => rfl))) pa_nil))) (nomark _)))))
        (pss_one (ps_set (i := 3) nd rfl (.inl rfl) (pe_op op_sub (pv 3) pe_int))))
      (pss_one (ps_expr (pe_bm PySem.F.plainAttrs_list PySem.F.slot_list_append PySem.F.type_list_append mt_append (pv 1)
        (pa_cons (pe_callTy (c_list K) (by rfl) B.list bt_list (pa_cons (pe_slice sl_list (pe_ix ix_list (pe_ix ix_tup (pv 0) pe_int (fun _ _ => rfl)) (pv 2) (fun _ _ => rfl)) po_none (po_some (pv 3))) pa_nil)) pa_nil)))))))
    (pss_one (ps_ret (pe_tup (pa_cons (pe_callTy (c_list K) (by rfl) B.list bt_list (pa_cons (pe_ix ix_tup (pv 0) pe_int (fun _ _ => rfl)) pa_nil)) (pa_cons (pv 1) pa_nil)))))), ?_⟩
  refine ⟨(by show 0 ≤ sizeLine; decide), fun R hR => ?_⟩
  have sR : Same H (del R (upd H R (.lst []))) := by rw [del_upd]; exact same_del (Same.refl _) hR
  have gR : upd H R (.lst []) R = some (.lst []) := upd_same
  generalize upd H R (.lst []) = H0 at sR gR
  have s0 : Same H H0 := sR.trans del_same
  refine ⟨_, rfl, dt, _, _, _, rfl, rfl, d0 (s0 _ _ hdt), rfl, a1, _, rfl, .inl (SqL.of (s0 _ _ h1)), _, rfl, by rw [List.length_map]; omega, by rw [List.length_map]; omega, ?_⟩
  rw [List.length_map, Int.toNat_natCast]
  refine for_it (walk_range (lo := 0) (n := ds.length)) (fun i σ H' => Same H (del R H') ∧ (∃ us, H' R = some (.lst us) ∧ Paired (RowAt (del R H')) us ((trimAll ds rows).take i)) ∧ ∃ x2 x3, σ = [some (.ref dt), some (.ref R), x2, x3]) ⟨sR, ⟨[], gR, by rw [List.take_zero]; exact .nil⟩, _, _, rfl⟩ ?_ ?_ ?_
  · rintro i σ H' _ _; trivial
  · rintro i x σ H1 H2 hi ⟨s1, ⟨us, hu, hpu⟩, x2, x3, rfl⟩ ⟨rfl, rfl⟩
    have hir : i < rows.length := hlen ▸ hi
    have hiw : i < ws.length := by omega
    have ed := List.getElem?_eq_getElem hi
    obtain ⟨row, hrow, b, vs, eb, hb, hvs⟩ := paired_get hp i (List.getElem?_eq_getElem hiw)
    have hvl := paired_len hvs
    have e0 : (0 : Int) + (i : Int) = (i : Int) := by omega
    have S1 : Same H H2 := s1.trans del_same
    have tr := trimAll_get hrow ed
    generalize ds[i] = d at ed tr
    have aw : atI ws ((fun (i : Nat) => V.int (0 + i)) i |> fun | .int z => z | _ => 0) = some (.ref b) := by
      show atI ws (0 + (i : Int)) = _
      rw [e0]; exact atI_nat (by rw [List.getElem?_eq_getElem hiw, eb])
    have aw : atI ws (0 + (i : Int)) = some (.ref b) := aw
    have ad : atI (ds.map V.int) (0 + (i : Int)) = some (.int d) := by rw [e0]; exact atI_nat (by rw [List.getElem?_map, ed]; rfl)
    refine ⟨_, rfl, dt, _, _, _, rfl, rfl, d0 (S1 _ _ hdt), rfl, _, rfl, a2, _, _, _, rfl, rfl, SqL.of (S1 _ _ h2), aw, b, _, rfl, .inl (SqL.of (S1 _ _ hb)), ?_⟩
    refine ⟨fun m σ H' => Same H2 H' ∧ m ≤ row.length ∧ trimLen (i : Int) d row row.length = trimLen (i : Int) d row m ∧ σ = [some (.ref dt), some (.ref R), some (.int (0 + (i : Int))), some (.int (m : Nat))], ⟨row.length, Same.refl _, Nat.le_refl _, rfl, by rw [hvl]; rfl⟩, ?_⟩
    rintro m σ H3 ⟨s3, hm, ht, rfl⟩
    have S3 : Same H H3 := S1.trans s3
    have g3 := s3 _ _ hu
    -- the end of the while: the row is appended
    have fin : ∀ H4, Same H3 H4 → trimLen (i : Int) d row row.length = m → tDrop (tBM K "list" rAppend (tVar 1) (tCons (tCB (fun xs H Q => ∃ p ys, xs = [V.ref p] ∧ (SqL K H p ys ∨ SqT K H p ys) ∧ ∀ l, H l = none → Q (V.ref l) (upd H l (.lst ys))) (tCons (tSl (rSlL K) (tOp (rIxL K) (tOp (rIxT K) (tVar 0) (tC (.int 1))) (tVar 2)) tNoPart (tPart (tVar 3))) tNil)) tNil))
        { nx := fun σ H' => Same H (del R H') ∧ (∃ us, H' R = some (.lst us) ∧ Paired (RowAt (del R H')) us ((trimAll ds rows).take (i + 1))) ∧ ∃ x2 x3, σ = [some (.ref dt), some (.ref R), x2, x3], rt := Q } [some (.ref dt), some (.ref R), some (.int (0 + (i : Int))), some (.int (m : Nat))] H4 := fun H4 s4 e => by
      have S4 : Same H H4 := S3.trans s4
      have g4 := s4 _ _ g3
      refine ⟨_, rfl, .inl ⟨rfl, _, SqL.of g4⟩, _, rfl, dt, _, _, _, rfl, rfl, d0 (S4 _ _ hdt), rfl, _, rfl, a2, _, _, _, rfl, rfl, SqL.of (S4 _ _ h2), aw, _, rfl, _, rfl, b, vs, rfl, SqL.of (S4 _ _ hb), fun p hp' => ?_⟩
      rw [cutV_to vs m (by omega)]
      have s5 := same_new hp' (.lst (vs.take m))
      have g5 : upd H4 p (.lst (vs.take m)) p = _ := upd_same
      generalize upd H4 p (.lst (vs.take m)) = H5 at s5 g5
      refine ⟨p, _, rfl, .inl (SqL.of g5), fun l hl => ?_⟩
      have s6 := same_new hl (.lst (vs.take m))
      have g6 : upd H5 l (.lst (vs.take m)) l = _ := upd_same
      have gR6 := s6 _ _ (s5 _ _ g4)
      have nl : l ≠ R := (ne_of_none (s5 _ _ g4) hl).symm
      generalize upd H5 l (.lst (vs.take m)) = H6 at s6 g6 gR6
      have s26 : Same H2 H6 := s3.trans (s4.trans (s5.trans s6))
      have sd := same_dels (D := R) s26
      refine ⟨R, us, _, rfl, rfl, gR6, snoc_le (by rw [paired_len hpu, List.length_take, trimAll_len]; omega), ?_⟩
      refine ⟨by rw [del_upd]; exact s1.trans sd, ⟨_, upd_same, ?_⟩, _, _, rfl⟩
      rw [del_upd, take_snoc tr]
      refine paired_snoc (rows_mono sd hpu) ?_
      unfold trimRow
      rw [e]
      have zr : RowAt H6 (.ref l) (row.take m) := ⟨l, _, rfl, g6, pls_mono (S1.trans s26) (paired_take m hvs)⟩
      exact zr.delN gR6 (fun _ z => nomatch z) nl
    refine ⟨_, rfl, _, _, rfl, rfl, _, rfl, ?_⟩
    cases m with
    | zero => exact iteF (fin H3 (Same.refl _) ht)
    | succ k =>
      rw [decide_eq_true (show (0 : Int) < ((k + 1 : Nat) : Int) by omega)]
      have hk : k < vs.length := by omega
      obtain ⟨p, hpk, hpp⟩ := paired_get hvs k (List.getElem?_eq_getElem hk)
      refine iteT ⟨_, rfl, dt, _, _, _, rfl, rfl, d0 (S3 _ _ hdt), rfl, _, rfl, a2, _, _, _, rfl, rfl, SqL.of (S3 _ _ h2), aw, _, rfl, _, _, rfl, rfl, b, vs, _, _, rfl, rfl, SqL.of (S3 _ _ hb), at_of (show ((k + 1 : Nat) : Int) - 1 = (k : Nat) by omega) (List.getElem?_eq_getElem hk), ?_⟩
      refine ⟨_, rfl, _, rfl, _, _, rfl, rfl, _, rfl, dt, _, _, _, rfl, rfl, d0 (S3 _ _ hdt), rfl, _, rfl, a1, _, _, _, rfl, rfl, SqL.of (S3 _ _ h1), ad, _, _, rfl, rfl, (by show 2 ≤ sizeLine; decide), fun t ht' => ?_⟩
      have s4 := same_new ht' (.tup [.int (0 + (i : Int)), .int (((k + 1 : Nat) : Int) - 1 + d)])
      refine ⟨_, _, dp_pl (hpp.mono (S3.trans s4)), dp_pl (p := (0 + (i : Int), ((k + 1 : Nat) : Int) - 1 + d)) ⟨t, rfl, upd_same⟩, shaped_pl _, shaped_pl _, _, rfl, ?_⟩
      rw [eqv_pl]
      have e1 : ((k + 1 : Nat) : Int) - 1 + d = (k : Int) + d := by omega
      rw [show decide (p = (0 + (i : Int), ((k + 1 : Nat) : Int) - 1 + d)) = decide (p = ((i : Int), (k : Int) + d)) by rw [e0, e1]]
      by_cases c : p = ((i : Int), (k : Int) + d)
      · rw [decide_eq_true c]
        refine iteT ⟨fun σ' H' => Same H2 H' ∧ σ' = [some (.ref dt), some (.ref R), some (.int (0 + (i : Int))), some (.int (k : Nat))], ?_, ?_⟩
        · rintro σ' H' ⟨s5, rfl⟩
          refine ⟨k, Nat.lt_succ_self _, s5, Nat.le_of_succ_le hm, ?_, rfl⟩
          rw [ht]
          show (if row[k]? = some ((i : Int), (k : Int) + d) then _ else _) = _
          rw [if_pos (by rw [hpk, c])]
        · refine ⟨_, rfl, _, _, rfl, rfl, s3.trans s4, ?_⟩
          show [some (V.ref dt), some (V.ref R), some (V.int (0 + (i : Int))), some (V.int (((k + 1 : Nat) : Int) - 1))] = _
          rw [show ((k + 1 : Nat) : Int) - 1 = (k : Int) by omega]
      · rw [decide_eq_false c]
        refine iteF (fin _ s4 ?_)
        rw [ht]
        show (if row[k]? = some ((i : Int), (k : Int) + d) then _ else _) = _
        rw [if_neg (by rw [hpk]; intro z; exact c (Option.some.inj z))]
  · rintro σ H1 ⟨s1, ⟨us, hu, hpu⟩, x2, x3, rfl⟩
    have S1 : Same H H1 := s1.trans del_same
    rw [← hlen, ← trimAll_len ds rows, List.take_length] at hpu
    refine ⟨_, rfl, dt, _, _, _, rfl, rfl, d0 (S1 _ _ hdt), rfl, a1, _, rfl, .inl (SqL.of (S1 _ _ h1)), fun l hl => ?_⟩
    have s2 := same_new hl (.lst (ds.map V.int))
    have g2 : upd H1 l (.lst (ds.map V.int)) l = _ := upd_same
    generalize upd H1 l (.lst (ds.map V.int)) = H2 at s2 g2
    refine ⟨_, rfl, (by show 2 ≤ sizeLine; decide), fun t ht => ?_⟩
    have s3 := same_new ht (.tup [.ref l, .ref R])
    refine q _ _ (S1.trans (s2.trans s3)) ⟨t, _, _, rfl, upd_same, ⟨l, rfl, s3 _ _ g2⟩, RowsAt.mono (s2.trans s3) ⟨R, us, rfl, hu, rows_mono del_same hpu⟩⟩
end
end L2.FK
/-! Dealing goals: heaps without several addresses; the places below the starts. -/
namespace L2.FK
open PySem PySem.Spec PyProof.Rows L2.FL
/-- the heap without some addresses -/
def dels (L : List Addr) (H : Hp) : Hp := fun a => if a ∈ L then none else H a
section
variable {L L' : List Addr} {H H' : Hp} {p a b : Addr} {o : HO}
theorem of_dels (h : dels L H a = some o) : H a = some o ∧ a ∉ L := by
  unfold dels at h
  split at h
  · cases h
  · exact ⟨h, by assumption⟩
theorem dels_out (h : a ∉ L) : dels L H a = H a := by unfold dels; rw [if_neg h]
theorem dels_in (h : a ∈ L) : dels L H a = none := by unfold dels; rw [if_pos h]
theorem dels_none (h : H a = none) : dels L H a = none := by unfold dels; split; rfl; exact h
theorem dels_upd (h : p ∈ L) : dels L (upd H p o) = dels L H := by
  funext c
  by_cases e : c ∈ L
  · rw [dels_in e, dels_in e]
  · rw [dels_out e, dels_out e, upd_ne fun z => e (by rw [z]; exact h)]
theorem dels_upd_ne (h : p ∉ L) : dels L (upd H p o) = upd (dels L H) p o := by
  funext c
  by_cases e : c ∈ L
  · rw [dels_in e, upd_ne (fun z => h (by rw [← z]; exact e)), dels_in e]
  · rw [dels_out e]
    by_cases z : c = p
    · rw [z, upd_same, upd_same]
    · rw [upd_ne z, upd_ne z, dels_out e]
theorem same_of_dels : Same (dels L H) H := fun _ _ h => (of_dels h).1
theorem same_delsL (s : Same H H') : Same (dels L H) (dels L H') := fun c o h => by
  obtain ⟨h1, h2⟩ := of_dels h
  rw [dels_out h2]; exact s _ _ h1
theorem same_dels_bag (hb : b ∈ L) (s : Same (del b H) (del b H')) : Same (dels L H) (dels L H') := fun c o h => by
  obtain ⟨h1, h2⟩ := of_dels h
  have nb : c ≠ b := fun z => h2 (by rw [z]; exact hb)
  have := s c o (by rw [del_ne nb]; exact h1)
  rw [del_ne nb] at this
  rw [dels_out h2]; exact this
theorem same_dels_more (hs : ∀ a ∈ L', a ∈ L) : Same (dels L H) (dels L' H) := fun c o h => by
  obtain ⟨h1, h2⟩ := of_dels h
  rw [dels_out fun z => h2 (hs _ z)]; exact h1
theorem PlAt.dels {v : V} {q : Pl} (h : PlAt H v q) (hL : ∀ a ∈ L, ∃ xs, H a = some (.lst xs)) : PlAt (FK.dels L H) v q := by
  obtain ⟨t, e, g⟩ := h
  refine ⟨t, e, ?_⟩
  rw [dels_out fun z => ?_]
  · exact g
  · obtain ⟨xs, w⟩ := hL t z; rw [g] at w; cases w
theorem pls_dels {vs : List V} {row : List Pl} (h : Paired (PlAt H) vs row) (hL : ∀ a ∈ L, ∃ xs, H a = some (.lst xs)) : Paired (PlAt (FK.dels L H)) vs row := paired_mono h fun _ _ z => z.dels hL
end
/-! ### the places below the starts -/
def plsRow (r e : Nat) : List Pl := (List.range e).map fun (a : Nat) => ((r : Int), (a : Int))
def plsTo (es : List Nat) (i : Nat) : List Pl := ((List.range i).map fun (r : Nat) => plsRow r (es.getD r 0)).flatten
theorem plsTo_succ (es : List Nat) (i : Nat) : plsTo es (i + 1) = plsTo es i ++ plsRow i (es.getD i 0) := by
  unfold plsTo
  rw [List.range_succ, List.map_append, List.flatten_append]
  simp
theorem plsRow_len (r e : Nat) : (plsRow r e).length = e := by unfold plsRow; rw [List.length_map, List.length_range]
theorem plsRow_get {r e j : Nat} (h : j < e) : (plsRow r e)[j]? = some ((r : Int), (j : Int)) := by
  unfold plsRow; rw [List.getElem?_map, List.getElem?_range h]; rfl
theorem plsTo_len (es : List Nat) : ∀ i, i ≤ es.length → (plsTo es i).length = (es.take i).sum
  | 0, _ => rfl
  | i + 1, h => by
    have hi : i < es.length := h
    rw [plsTo_succ, List.length_append, plsTo_len es i (by omega), plsRow_len, take_snoc (List.getElem?_eq_getElem hi), List.sum_append]
    rw [List.getD_eq_getElem?_getD, List.getElem?_eq_getElem hi]
    simp
theorem mem_plsRow {r e : Nat} {p : Pl} : p ∈ plsRow r e ↔ p.1 = (r : Int) ∧ 0 ≤ p.2 ∧ p.2 < (e : Int) := by
  unfold plsRow
  rw [List.mem_map]
  constructor
  · rintro ⟨a, ha, rfl⟩
    have := List.mem_range.mp ha
    exact ⟨rfl, by show (0 : Int) ≤ (a : Int); omega, by show (a : Int) < (e : Int); omega⟩
  · rintro ⟨h1, h2, h3⟩
    obtain ⟨x, y⟩ := p
    have h1 : x = (r : Int) := h1
    have h2 : 0 ≤ y := h2
    have h3 : y < (e : Int) := h3
    exact ⟨y.toNat, List.mem_range.mpr (by omega), by rw [Int.toNat_of_nonneg h2, h1]⟩
theorem mem_plsTo {es : List Nat} {p : Pl} : ∀ {i : Nat}, p ∈ plsTo es i ↔ ∃ r : Nat, r < i ∧ p.1 = (r : Int) ∧ 0 ≤ p.2 ∧ p.2 < (es.getD r 0 : Nat)
  | 0 => by
    constructor
    · intro h; cases h
    · rintro ⟨r, h, _⟩; omega
  | i + 1 => by
    rw [plsTo_succ, List.mem_append, mem_plsTo, mem_plsRow]
    constructor
    · rintro (⟨r, h1, h2⟩ | h)
      · exact ⟨r, by omega, h2⟩
      · exact ⟨i, by omega, h⟩
    · rintro ⟨r, h1, h2⟩
      by_cases c : r = i
      · subst c; exact .inr h2
      · exact .inl ⟨r, by omega, h2⟩
theorem plsTo_nodup (es : List Nat) : ∀ i, (plsTo es i).Nodup
  | 0 => List.nodup_nil
  | i + 1 => by
    rw [plsTo_succ]
    refine List.nodup_append.mpr ⟨plsTo_nodup es i, ?_, fun x hx y hy e => ?_⟩
    · refine List.Pairwise.map _ ?_ List.nodup_range
      intro a b hab e
      injection e with _ e
      exact hab (by omega)
    · subst e
      obtain ⟨r, h1, h2, _⟩ := mem_plsTo.mp hx
      have := (mem_plsRow.mp hy).1
      omega
/-- the ends of the dealt lanes -/
def endsN : List Int → List Nat → List Nat
  | d :: ds, z :: zs => ((z : Int) + d).toNat :: endsN ds zs
  | _, _ => []
theorem endsN_len : ∀ {ds : List Int} {zs : List Nat}, zs.length = ds.length → (endsN ds zs).length = ds.length
  | [], [], _ => rfl
  | [], _ :: _, h => by cases h
  | _ :: _, [], h => by cases h
  | d :: ds, z :: zs, h => by
    have := endsN_len (ds := ds) (zs := zs) (by simpa using h)
    unfold endsN; simp [this]
theorem endsN_get : ∀ {ds : List Int} {zs : List Nat} {i : Nat} {d : Int} {z : Nat}, ds[i]? = some d → zs[i]? = some z → (endsN ds zs)[i]? = some ((z : Int) + d).toNat
  | [], _, _, _, _, h, _ => by simp at h
  | _ :: _, [], _, _, _, _, h => by simp at h
  | d :: ds, z :: zs, 0, _, _, h, h' => by simp at h h'; subst h h'; rfl
  | d :: ds, z :: zs, i + 1, _, _, h, h' => by
    unfold endsN
    simpa using endsN_get (ds := ds) (zs := zs) (i := i) (by simpa using h) (by simpa using h')
theorem endsN_sum : ∀ {ds : List Int} {zs : List Nat}, zs.length = ds.length → (∀ (i : Nat) d z, ds[i]? = some d → zs[i]? = some z → 0 ≤ (z : Int) + d) → ((endsN ds zs).sum : Int) = (zs.sum : Nat) + ds.sum
  | [], [], _, _ => rfl
  | [], _ :: _, h, _ => by cases h
  | _ :: _, [], h, _ => by cases h
  | d :: ds, z :: zs, h, hh => by
    have ih := endsN_sum (ds := ds) (zs := zs) (by simpa using h) fun i d z h1 h2 => hh (i + 1) d z (by simpa using h1) (by simpa using h2)
    have h0 := hh 0 d z rfl rfl
    unfold endsN
    rw [List.sum_cons, List.sum_cons, List.sum_cons]
    omega
theorem sum_take_le : ∀ (zs : List Nat) (i : Nat), (zs.take i).sum ≤ zs.sum
  | [], i => by simp
  | z :: zs, 0 => by simp
  | z :: zs, i + 1 => by
    have := sum_take_le zs i
    rw [List.take_succ_cons, List.sum_cons, List.sum_cons]; omega
theorem flatten_len {rows : List (List Pl)} {zs : List Nat} (hl : rows.length = zs.length) (h : ∀ (i : Nat) row z, rows[i]? = some row → zs[i]? = some z → row.length = z) : rows.flatten.length = zs.sum := by
  induction rows generalizing zs with
  | nil => cases zs with
    | nil => rfl
    | cons _ _ => cases hl
  | cons r rows ih => cases zs with
    | nil => cases hl
    | cons z zs =>
      rw [List.flatten_cons, List.length_append, h 0 r z rfl rfl, ih (by simpa using hl) fun i row z h1 h2 => h (i + 1) row z (by simpa using h1) (by simpa using h2), List.sum_cons]
/-- what is dealt is a valid map -/
theorem okm_deal {ds : List Int} {zs : List Nat} {rows : List (List Pl)} (h1 : 1 ≤ ds.length) (h6 : ds.length ≤ 6) (hz : zs.length = ds.length) (hr : rows.length = ds.length) (hd : ∀ (i : Nat) d z, ds[i]? = some d → zs[i]? = some z → 0 ≤ (z : Int) + d)
    (hl : ∀ (i : Nat) row z, rows[i]? = some row → zs[i]? = some z → row.length = z) (hw : zs.sum ≤ 2000) (hp : rows.flatten.Perm (plsTo (endsN ds zs) ds.length)) : Okm ds rows := by
  have get : ∀ {i : Nat} {row : List Pl} {d : Int}, rows[i]? = some row → ds[i]? = some d → i < ds.length ∧ 0 ≤ (row.length : Int) + d ∧ ((endsN ds zs).getD i 0 : Nat) = (row.length : Int) + d := fun {i row d} g1 g2 => by
    obtain ⟨hi, _⟩ := List.getElem?_eq_some_iff.mp g2
    have g3 := List.getElem?_eq_getElem (hz ▸ hi : i < zs.length)
    have e := hl i row _ g1 g3
    have b := hd i d _ g2 g3
    rw [List.getD_eq_getElem?_getD, endsN_get g2 g3, ← e]
    rw [← e] at b
    exact ⟨hi, b, by show (((((row.length : Nat) : Int) + d).toNat : Nat) : Int) = _; omega⟩
  refine ⟨hr, h1, h6, by rw [flatten_len (hr.trans hz.symm) hl]; exact hw, fun i row d g1 g2 => (get g1 g2).2.1, fun p => ?_, hp.nodup_iff.mpr (plsTo_nodup _ _)⟩
  rw [hp.mem_iff, mem_plsTo]
  constructor
  · rintro ⟨r, h2, h3, h4, h5⟩
    have g1 := List.getElem?_eq_getElem (hr ▸ h2 : r < rows.length)
    have g2 := List.getElem?_eq_getElem h2
    exact ⟨r, _, _, h3, g1, g2, h4, by have := (get g1 g2).2.2; omega⟩
  · rintro ⟨i, row, d, h3, g1, g2, h4, h5⟩
    obtain ⟨hi, _, e⟩ := get g1 g2
    exact ⟨i, hi, h3, h4, by omega⟩
end L2.FK
namespace L2.FK
open PySem PySem.Spec PyProof.Rows L2.FL
section
variable {P : Program} {w : World} {K : PySem.W.Frag} {mg : Str → Option Value} {base : Heap} {C : Addr}
abbrev nDeal : List Str := ["_law_bag_here", "_law_drifts_here", "_law_more", "_law_sizes", "_law_free", "_law_row", "_law_straight", "_law_goals", "_law_size", "_law_found", "_law_at", "_law_drift"]
def spDeal : Sp := fun vs H Q _ => ∃ (b sa : Addr) (v : V) (ds : List Int) (mo : Int), vs = [.ref b, v, .int mo] ∧ BagAt H b sa ∧ IntsAt H v ds ∧ 1 ≤ ds.length ∧ ds.length ≤ 6 ∧ (∀ d ∈ ds, -6 ≤ d ∧ d ≤ 6) ∧ ds.sum = 0 ∧ 0 ≤ mo ∧ mo ≤ 20 ∧
  ∀ r H' rows, Same (del b H) (del b H') → BagAt H' b sa → DAt H' r ds rows → Okm ds rows → (∀ row ∈ rows, row.length ≤ 26) → Q r H'
theorem sc_dl : FnScope nDeal ["_law_bag_here", "_law_drifts_here", "_law_more"] (C8.fnScope sDeal) := C8.fnScope_by (by decide +kernel)
theorem erase_perm : ∀ {l : List Pl} {k : Nat} {p : Pl}, l[k]? = some p → (p :: l.eraseIdx k).Perm l
  | [], k, p, h => by simp at h
  | a :: l, 0, p, h => by simp at h; subst h; exact List.Perm.refl _
  | a :: l, k + 1, p, h => by
    have ih := erase_perm (l := l) (k := k) (p := p) (by simpa using h)
    rw [List.eraseIdx_cons_succ]
    exact (List.Perm.swap a p _).trans (ih.cons a)
theorem seqIx {n r : Nat} (h : r < n) : seqIndex? (r : Int) n = some r := (ixN_seq (ixN_nat' h)).1
theorem ok_deal (h : Has K mg "_law_deal" sDeal ["_law_bag_here", "_law_drifts_here", "_law_more"]) (B : Bl mg) (c : C8.Cal P w K mg base 1 "_law_pull" spPull []) : C8.Cal P w K mg base 2 "_law_deal" spDeal [] := by
  refine cal_of h sc_dl (fun vs H Q E z => ?_) (fun f cdv A outer s H vs Q E hr z => ?_)
  · obtain ⟨b, sa, v, ds, mo, rfl, _⟩ := z; rfl
  obtain ⟨b, sa, v, ds, mo, rfl, hB, hI, h1, h6, hdb, hds, hm0, hm1, q⟩ := z
  have nd := sc_dl.nd
  have hIb := hI.bag hB
  obtain ⟨a, rfl, ha⟩ := hI
  have hab : del b H a = some (.lst (ds.map V.int)) := by obtain ⟨a', e, z⟩ := hIb; cases e; exact z
  refine ⟨_, pss_cons (ps_setLc (i := 3) (own := [("_law_drift", 11)]) (g := gName 11) (tt := tYes) rfl nd rfl rfl (sw_true rfl rfl rfl (by decide +kernel)) (pi_list (pv 1)) (blkOk_by (own := [("_law_drift", 11)]) (N := nDeal) (sc := C8.fnScope sDeal) (by decide +kernel))
      (fun _ _ _ _ _ => pg_name (i := 11) nd rfl (Or.inl rfl)) (fun _ _ _ _ _ => pts_nil)
      (fun _ _ _ _ _ => pe_op op_add (pe_callB (call_max2 rfl) (by rfl) B.max bt_max (pa_cons pe_int (pa_cons (pe_op op_sub pe_int (pv 11)) pa_nil))) (C8.pe_c c hr (by decide) rfl (pa_cons (pv 0) (pa_cons (pe_op op_add (pv 2) pe_int) pa_nil)))))
    (pss_cons (ps_set (i := 4) nd rfl (.inl rfl) (pe_lst pa_nil))
    (pss_cons (ps_for PassesOwn.never rfl (pi_range1 rfl B.range (pa_cons (pe_callB call_len_seq (by rfl) B.len bt_len (pa_cons (pv 1) pa_nil)) pa_nil)) (pg_name (i := 5) nd rfl (.inr rfl))
      (pss_one (ps_set (i := 4) nd rfl (.inl rfl) (pe_op op_cat (pv 4) (pe_lc (own := [("_law_at", 10)]) (g := gName 10) (tt := tYes) rfl nd
        (pi_range1 rfl B.range (pa_cons (pe_op op_add (pe_ix ix_list (pv 3) (pv 5) (fun _ _ => rfl)) (pe_ix ix_list (pv 1) (pv 5) (fun _ _ => rfl))) pa_nil))
        (blkOk_by (own := [("_law_at", 10)]) (N := nDeal) (sc := C8.fnScope sDeal) (by decide +kernel)) (fun _ _ _ _ _ => pg_name (i := 10) nd rfl (Or.inl rfl)) (fun _ _ _ _ _ => pts_nil)
        (fun _ _ _ _ _ => pe_tup (pa_cons (pv 5) (pa_cons (pv 10) pa_nil))))))))
    (pss_cons (ps_par (i := 6) (j := 7) (by rfl) nd rfl rfl (by decide) rfl rfl (pa_cons (pe_cmpR op_eq (C8.pe_c c hr (by decide) rfl (pa_cons (pv 0) (pa_cons pe_int pa_nil))) pe_int (nomark _)) (pa_cons (pe_lst pa_nil) pa_nil)) (by rfl))
    (pss_cons (ps_for PassesOwn.never rfl (pi_list (pv 3)) (pg_name (i := 8) nd rfl (.inl rfl))
      (pss_cons (ps_set (i := 9) nd rfl (.inl rfl) (pe_lst pa_nil))
      (pss_cons (ps_for PassesOwn.never rfl (pi_range1 rfl B.range (pa_cons (pv 8) pa_nil)) (pg_name (i := 10) nd rfl (.inl rfl))
        (pss_one (ps_expr (pe_bm PySem.F.plainAttrs_list PySem.F.slot_list_append PySem.F.type_list_append mt_append (pv 9)
          (pa_cons (pe_bm PySem.F.plainAttrs_list PySem.F.slot_list_pop PySem.F.type_list_pop mt_popAt (pv 4)
            (pa_cons (pe_ifExp (pt_val (pv 6)) pe_int (C8.pe_c c hr (by decide) rfl (pa_cons (pv 0) (pa_cons (pe_callB call_len_seq (by rfl) B.len bt_len (pa_cons (pv 4) pa_nil)) pa_nil)))) pa_nil)) pa_nil)))))
      (pss_one (ps_expr (pe_bm PySem.F.plainAttrs_list PySem.F.slot_list_append PySem.F.type_list_append mt_append (pv 7) (pa_cons (pv 9) pa_nil)))))))
    (pss_one (ps_ret (pe_tup (pa_cons (pv 1) (pa_cons (pv 7) pa_nil))))))))), ?_⟩
  -- sizes
  refine ⟨_, rfl, a, rfl, ⟨_, SqL.of ha⟩, fun D hD => ?_⟩
  obtain ⟨nDb, nDs⟩ := hB.old hD
  have ddb : ∀ {H' : Hp} {o : HO}, del D (del b (upd H' D o)) = del D (del b H') := fun {H' o} => by rw [del_del, del_upd, del_del]
  refine lc_it (walk_list (K := K) (a := a) (xs := ds.map V.int)) (fun i H' => Same (del b H) (del D (del b H')) ∧ BagAt H' b sa ∧ ∃ zs : List Nat, H' D = some (.lst (zs.map fun (z : Nat) => V.int (z : Int))) ∧ zs.length = i ∧ ∀ (j : Nat) d z, ds[j]? = some d → zs[j]? = some z → 0 ≤ (z : Int) + d ∧ z ≤ 26) ?_ ?_ ?_ ?_
  · exact ⟨by rw [ddb]; exact same_del (Same.refl _) (none_del hD), hB.put nDb nDs, [], upd_same, rfl, fun j d z _ h => by simp at h⟩
  · rintro i H' _ ⟨s', _⟩; exact SqL.of (del_same _ _ (del_same _ _ (s' _ _ hab)))
  · rintro i x H1 H2 hi ⟨s1, b1, zs, g1, hzl, hzb⟩ ⟨rfl, hx⟩
    rw [List.length_map] at hi
    have ed := List.getElem?_eq_getElem hi
    rw [List.getElem?_map, ed] at hx
    cases hx
    have hd := hdb _ (List.getElem_mem hi)
    generalize ds[i] = d at ed hd
    refine ⟨rfl, _, rfl, _, _, rfl, rfl, _, _, rfl, _, rfl, _, rfl, _, _, rfl, rfl, b, sa, _, rfl, b1, by omega, by omega, fun r H3 r0 r1 s3 b3 => ?_⟩
    have g3 : H3 D = some (.lst (zs.map fun (z : Nat) => V.int (z : Int))) := by
      have := s3 _ _ (show del b H2 D = _ by rw [del_ne nDb.symm]; exact g1)
      rw [del_ne nDb.symm] at this; exact this
    refine ⟨_, _, rfl, rfl, _, g3, snoc_le (by rw [List.length_map]; omega), ?_⟩
    generalize hz : (if 0 - d > 0 then 0 - d else 0) + r = z
    have hz0 : 0 ≤ z := by rw [← hz]; split <;> omega
    have hz1 : 0 ≤ z + d := by rw [← hz]; split <;> omega
    have hz2 : z ≤ 26 := by rw [← hz]; split <;> omega
    refine ⟨by rw [ddb]; exact s1.trans (same_dels s3), b3.put nDb nDs, zs ++ [z.toNat], ?_, by rw [List.length_append, hzl]; rfl, fun j d' z' e1 e2 => ?_⟩
    · rw [upd_same, List.map_append]
      show some (HO.lst (_ ++ [V.int ((if 0 - d > 0 then 0 - d else 0) + r)])) = some (HO.lst (_ ++ [V.int ((z.toNat : Nat) : Int)]))
      rw [hz, Int.toNat_of_nonneg hz0]
    · by_cases cj : j < zs.length
      · rw [List.getElem?_append_left cj] at e2
        exact hzb j d' z' e1 e2
      · have ej : j = i := by
          obtain ⟨hj, _⟩ := List.getElem?_eq_some_iff.mp e2
          rw [List.length_append, List.length_singleton] at hj; omega
        subst ej
        rw [ed] at e1; cases e1
        rw [List.getElem?_append_right (by omega), hzl, Nat.sub_self] at e2
        cases e2
        constructor <;> omega
  rintro H1 ⟨s1, b1, zs, g1, hzl, hzb⟩
  rw [List.length_map] at hzl
  have s1 : Same (del b H) (del b H1) := s1.trans del_same
  have ha1 : H1 a = some (.lst (ds.map V.int)) := del_same _ _ (s1 _ _ hab)
  have hge : ∀ {j : Nat}, j < ds.length → ∃ d z, ds[j]? = some d ∧ zs[j]? = some z ∧ 0 ≤ (z : Int) + d ∧ z ≤ 26 ∧ -6 ≤ d ∧ d ≤ 6 := fun {j} hj => by
    have e1 := List.getElem?_eq_getElem hj
    have e2 := List.getElem?_eq_getElem (hzl ▸ hj : j < zs.length)
    obtain ⟨z1, z2⟩ := hzb j _ _ e1 e2
    obtain ⟨z3, z4⟩ := hdb _ (List.getElem_mem hj)
    exact ⟨_, _, e1, e2, z1, z2, z3, z4⟩
  have hsum : zs.sum ≤ 2000 := by
    have z1 : ∀ l : List Nat, (∀ z ∈ l, z ≤ 26) → l.sum ≤ 26 * l.length := fun l => by
      induction l with
      | nil => intro _; exact Nat.zero_le _
      | cons z l ih =>
        intro hh
        have := ih fun y hy => hh y (List.mem_cons_of_mem _ hy)
        have := hh z List.mem_cons_self
        rw [List.sum_cons, List.length_cons]; omega
    have := z1 zs fun z hz => by
      obtain ⟨j, hj⟩ := List.mem_iff_getElem?.mp hz
      obtain ⟨hjl, _⟩ := List.getElem?_eq_some_iff.mp hj
      obtain ⟨d, z', _, e2, _, q2, _⟩ := hge (j := j) (by omega)
      rw [hj] at e2; cases e2; exact q2
    omega
  -- free
  refine ⟨(by show 0 ≤ sizeLine; decide), fun f0 hf0 => ?_⟩
  have s2 := same_new hf0 (.lst [])
  have gf : upd H1 f0 (.lst []) f0 = some (.lst []) := upd_same
  generalize upd H1 f0 (.lst []) = H2 at s2 gf
  refine ⟨_, rfl, a, _, rfl, .inl (SqL.of (s2 _ _ ha1)), _, rfl, by rw [List.length_map]; omega, by rw [List.length_map]; omega, ?_⟩
  rw [List.length_map, Int.toNat_natCast]
  refine for_it (walk_range (lo := 0) (n := ds.length)) (fun i σ H' => Same H1 H' ∧ (∃ fa vs, H1 fa = none ∧ H' fa = some (.lst vs) ∧ Paired (PlAt H') vs (plsTo (endsN ds zs) i) ∧ ∃ x5 x6 x7 x8 x9 x10 x11, σ = [some (.ref b), some (.ref a), some (.int mo), some (.ref D), some (.ref fa), x5, x6, x7, x8, x9, x10, x11])) ⟨s2, f0, [], hf0, gf, .nil, _, _, _, _, _, _, _, rfl⟩ ?_ ?_ ?_
  · rintro i σ H' _ _; trivial
  · rintro i x σ H3 H4 hi ⟨s3, fa, vs, hfa, gfa, hvs, x5, x6, x7, x8, x9, x10, x11, rfl⟩ ⟨rfl, rfl⟩
    obtain ⟨d, z, ed, ez, q1, q2, q3, q4⟩ := hge hi
    have e0 : (0 : Int) + (i : Int) = (i : Int) := by omega
    have az : atI (zs.map fun (z : Nat) => V.int (z : Int)) (0 + (i : Int)) = some (.int (z : Int)) := by rw [e0]; exact atI_nat (by rw [List.getElem?_map, ez]; rfl)
    have ad : atI (ds.map V.int) (0 + (i : Int)) = some (.int d) := by rw [e0]; exact atI_nat (by rw [List.getElem?_map, ed]; rfl)
    have hvl := paired_len hvs
    have hbound : (plsTo (endsN ds zs) i).length ≤ 200 * i := by
      clear az ad hvl hvs ed ez e0
      induction i with
      | zero => exact Nat.zero_le _
      | succ k ih =>
        have hk : k < ds.length := by omega
        obtain ⟨d, z, ed, ez, q1, q2, q3, q4⟩ := hge hk
        rw [plsTo_succ, List.length_append, plsRow_len, List.getD_eq_getElem?_getD, endsN_get ed ez]
        have := ih hk
        have : ((z : Int) + d).toNat ≤ 32 := by omega
        show _ + ((z : Int) + d).toNat ≤ _
        omega
    have hE : (endsN ds zs).getD i 0 = ((z : Int) + d).toNat := by rw [List.getD_eq_getElem?_getD, endsN_get ed ez]; rfl
    refine ⟨_, rfl, _, rfl, _, rfl, D, _, _, _, rfl, rfl, SqL.of (s3 _ _ g1), az, _, rfl, _, rfl, a, _, _, _, rfl, rfl, SqL.of (s3 _ _ ha1), ad, _, _, rfl, rfl, _, rfl, by omega, by omega, fun D2 hD2 => ?_⟩
    refine lc_it (walk_range (lo := 0) (n := ((z : Int) + d).toNat)) (fun j H' => Same H4 (del D2 H') ∧ ∃ ws, H' D2 = some (.lst ws) ∧ Paired (PlAt (del D2 H')) ws ((plsRow i ((z : Int) + d).toNat).take j)) ?_ ?_ ?_ ?_
    · exact ⟨by rw [del_upd]; exact same_del (Same.refl _) hD2, [], upd_same, .nil⟩
    · rintro j H' _ _; trivial
    · rintro j x H5 H6 hj ⟨s5, ws, hw5, hp5⟩ ⟨rfl, rfl⟩
      have e00 : (0 : Int) + (j : Int) = (j : Int) := by omega
      refine ⟨rfl, _, rfl, _, rfl, (by show 2 ≤ sizeLine; decide), fun t ht => ?_⟩
      have nt : t ≠ D2 := (ne_of_none hw5 ht).symm
      refine ⟨ws, by rw [upd_ne nt.symm]; exact hw5, snoc_le (by rw [paired_len hp5, List.length_take]; omega), ?_⟩
      have ed2 : ∀ {o o'}, del D2 (upd (upd H6 t o) D2 o') = upd (del D2 H6) t o := fun {o o'} => by rw [del_upd, del_upd_ne nt]
      have sn : ∀ {o}, Same (del D2 H6) (upd (del D2 H6) t o) := fun {o} => same_new (none_del ht) _
      refine ⟨by rw [ed2]; exact s5.trans sn, _, upd_same, ?_⟩
      rw [ed2, take_snoc (plsRow_get hj)]
      refine paired_snoc (pls_mono sn hp5) ⟨t, rfl, ?_⟩
      rw [upd_same]
      show some (HO.tup [V.int (0 + (i : Int)), V.int (0 + (j : Int))]) = _
      rw [e0, e00]
    · rintro H5 ⟨s5, ws, hw5, hp5⟩
      have s45 : Same H4 H5 := s5.trans del_same
      have hwl := paired_len hp5
      rw [List.take_of_length_le (by rw [plsRow_len]; omega)] at hp5
      rw [List.length_take, plsRow_len] at hwl
      refine ⟨fa, D2, vs, ws, rfl, rfl, s45 _ _ gfa, hw5, le_line (by omega), fun p hp => ?_⟩
      have s6 := same_new hp (.lst (vs ++ ws))
      refine ⟨s3.trans (s45.trans s6), p, vs ++ ws, (s3.trans s45).free hp, upd_same, ?_, _, _, _, _, _, _, _, rfl⟩
      rw [plsTo_succ, hE]
      exact paired_app (pls_mono (s45.trans s6) hvs) (pls_mono (del_same.trans s6) hp5)
  rintro σ H3 ⟨s3, fa, vs, hfa, gfa, hvs, x5, x6, x7, x8, x9, x10, x11, rfl⟩
  have b3 := b1.mono s3
  have g3 := s3 _ _ g1
  have s03 : Same (del b H) (del b H3) := s1.trans (same_dels s3)
  obtain ⟨nbf, nsf⟩ := b1.old hfa
  have hvs := pls_bag b3 hvs
  -- straight, goals
  refine ⟨_, rfl, b, sa, _, rfl, b3, by decide, by decide, fun r H4 r0 r1 s4 b4 => ?_⟩
  have gfa4 : H4 fa = some (.lst vs) := by
    have := s4 _ _ (show del b H3 fa = _ by rw [del_ne nbf.symm]; exact gfa)
    rw [del_ne nbf.symm] at this; exact this
  have gD4 : H4 D = some (.lst (zs.map fun (z : Nat) => V.int (z : Int))) := by
    have := s4 _ _ (show del b H3 D = _ by rw [del_ne nDb.symm]; exact g3)
    rw [del_ne nDb.symm] at this; exact this
  have hvs4 : Paired (PlAt H4) vs (plsTo (endsN ds zs) ds.length) := pls_mono (s4.trans del_same) hvs
  have s04 := s03.trans s4
  have ha4 : H4 a = some (.lst (ds.map V.int)) := del_same _ _ (s04 _ _ hab)
  refine ⟨rfl, (by show 0 ≤ sizeLine; decide), fun G hG => ?_⟩
  refine ⟨_, _, rfl, ?_⟩
  generalize decide (V.int r = V.int 0) = strt
  obtain ⟨nGb, nGs⟩ := b4.old hG
  have nfG : fa ≠ G := ne_of_none gfa4 hG
  have nDf : D ≠ fa := ne_of_none g1 hfa
  have nDG : D ≠ G := ne_of_none gD4 hG
  have naf : a ≠ fa := ne_of_none ha1 hfa
  have naG : a ≠ G := ne_of_none ha4 hG
  have nab : a ≠ b := (of_del hab).2
  have s45 := same_new hG (.lst [])
  have gG5 : upd H4 G (.lst []) G = some (.lst []) := upd_same
  have b5 := b4.mono s45
  generalize upd H4 G (.lst []) = H5 at s45 gG5 b5
  have gfa5 := s45 _ _ gfa4
  have gD5 := s45 _ _ gD4
  have hvs5 := pls_mono s45 hvs4
  -- what does not change any more
  have bagL : ∀ {H' : Hp}, BagAt H' b sa → ∃ xs, H' b = some (.lst xs) := fun hb => let ⟨_, _, _, _, _, z, _⟩ := hb; ⟨_, z⟩
  have hL3 : ∀ {H' : Hp} {xs ys : List V}, BagAt H' b sa → H' fa = some (.lst xs) → H' G = some (.lst ys) → ∀ x ∈ [b, fa, G], ∃ zs, H' x = some (.lst zs) := fun {H' xs ys} hb h1 h2 x hx => by
    rcases List.mem_cons.mp hx with rfl | hx
    · exact bagL hb
    · rcases List.mem_cons.mp hx with rfl | hx
      · exact ⟨_, h1⟩
      · rw [List.mem_singleton.mp hx]; exact ⟨_, h2⟩
  have hperm0 : (plsTo (endsN ds zs) ds.length).length = zs.sum := by
    have z1 := plsTo_len (endsN ds zs) ds.length (by rw [endsN_len hzl]; omega)
    have z2 := endsN_sum (ds := ds) (zs := zs) hzl fun i d z e1 e2 => (hzb i d z e1 e2).1
    rw [← endsN_len hzl, List.take_length] at z1
    rw [endsN_len hzl] at z1
    rw [hds] at z2
    omega
  generalize hF0 : plsTo (endsN ds zs) ds.length = F0 at hvs5 hperm0
  have keepD : ∀ {H' : Hp}, Same (dels [b, fa, G] H5) (dels [b, fa, G] H') → H' D = some (.lst (zs.map fun (z : Nat) => V.int (z : Int))) ∧ H' a = some (.lst (ds.map V.int)) := fun {H'} s' => by
    have nD : D ∉ [b, fa, G] := by simp [nDb.symm, nDf, nDG]
    have na : a ∉ [b, fa, G] := by simp [nab, naf, naG]
    exact ⟨(of_dels (s' _ _ (by rw [dels_out nD]; exact gD5))).1, (of_dels (s' _ _ (by rw [dels_out na]; exact s45 _ _ ha4))).1⟩
  refine ⟨_, rfl, D, rfl, ⟨_, SqL.of gD5⟩, for_it (walk_list (K := K) (a := D) (xs := zs.map fun (z : Nat) => V.int (z : Int))) (fun i σ H' => Same (dels [b, fa, G] H5) (dels [b, fa, G] H') ∧ BagAt H' b sa ∧ (∃ (rows : List (List Pl)) (gs fs : List V) (F : List Pl), H' G = some (.lst gs) ∧ Paired (RowAt (dels [b, fa, G] H')) gs rows ∧ H' fa = some (.lst fs) ∧ Paired (PlAt (dels [b, fa, G] H')) fs F ∧ rows.length = i ∧
      (∀ (j : Nat) row z, rows[j]? = some row → zs[j]? = some z → row.length = z) ∧ (rows.flatten ++ F).Perm F0) ∧ ∃ x5 x8 x9 x10 x11, σ = [some (.ref b), some (.ref a), some (.int mo), some (.ref D), some (.ref fa), x5, some (.bl strt), some (.ref G), x8, x9, x10, x11])
    ⟨Same.refl _, b5, ⟨[], [], vs, F0, gG5, .nil, gfa5, pls_dels hvs5 (hL3 b5 gfa5 gG5), rfl, fun j row z e => by simp at e, by simp⟩, _, _, _, _, _, rfl⟩ ?_ ?_ ?_⟩
  · rintro i σ H' _ ⟨s', _⟩; exact SqL.of (keepD s').1
  · rintro i x σ H6 H7 hi ⟨s6, b6, ⟨rows, gs, fs, F, gG6, hgs, gfa6, hfs, hrl, hrz, hperm⟩, x5, x8, x9, x10, x11, rfl⟩ ⟨rfl, hx⟩
    rw [List.length_map] at hi
    have ez := List.getElem?_eq_getElem hi
    rw [List.getElem?_map, ez] at hx
    cases hx
    have hzle : zs[i] ≤ 26 := by
      obtain ⟨d, z, _, e2, _, q2, _⟩ := hge (j := i) (by omega)
      rw [ez] at e2; cases e2; exact q2
    have hzsum : (zs.take (i + 1)).sum ≤ zs.sum := sum_take_le zs (i + 1)
    rw [take_snoc ez, List.sum_append] at hzsum
    have hrfl : rows.flatten.length = (zs.take i).sum := flatten_len (by rw [List.length_take]; omega) fun j row z e1 e2 => by
      rw [List.getElem?_take] at e2
      split at e2
      · exact hrz j row z e1 e2
      · cases e2
    generalize zs[i] = zi at ez hzle hzsum
    have hzsum : (zs.take i).sum + zi ≤ zs.sum := by simpa using hzsum
    -- found
    refine ⟨(by show 0 ≤ sizeLine; decide), fun fo hfo => ?_⟩
    obtain ⟨nob, nos⟩ := b6.old hfo
    have nof : fa ≠ fo := ne_of_none gfa6 hfo
    have noG : G ≠ fo := ne_of_none gG6 hfo
    have s7 := same_new hfo (.lst [])
    have go7 : upd H7 fo (.lst []) fo = some (.lst []) := upd_same
    have b7 := b6.mono s7
    have sD7 : Same (dels [b, fa, G] H7) (dels [fo, b, fa, G] (upd H7 fo (.lst []))) := fun c o hh => by
      obtain ⟨w1, w2⟩ := of_dels hh
      have : c ≠ fo := ne_of_none w1 hfo
      rw [dels_out (by simp only [List.mem_cons] at w2 ⊢; intro w; rcases w with w | w; exact this w; exact w2 w)]
      exact s7 _ _ w1
    generalize upd H7 fo (.lst []) = H8 at s7 go7 b7 sD7
    have gG8 := s7 _ _ gG6
    have gfa8 := s7 _ _ gfa6
    refine ⟨_, rfl, _, rfl, by omega, by omega, ?_⟩
    rw [Int.toNat_natCast]
    refine for_it (walk_range (lo := 0) (n := zi)) (fun j σ H' => Same (dels [fo, b, fa, G] H8) (dels [fo, b, fa, G] H') ∧ BagAt H' b sa ∧ H' G = some (.lst gs) ∧ (∃ (cv fs : List V) (cur F : List Pl), H' fo = some (.lst cv) ∧ Paired (PlAt (dels [fo, b, fa, G] H')) cv cur ∧ H' fa = some (.lst fs) ∧ Paired (PlAt (dels [fo, b, fa, G] H')) fs F ∧ cur.length = j ∧ (rows.flatten ++ cur ++ F).Perm F0) ∧
        ∃ x5 x10 x11, σ = [some (.ref b), some (.ref a), some (.int mo), some (.ref D), some (.ref fa), x5, some (.bl strt), some (.ref G), some (.int (zi : Nat)), some (.ref fo), x10, x11])
      ⟨Same.refl _, b7, gG8, ⟨[], fs, [], F, go7, .nil, gfa8, pls_mono sD7 hfs, rfl, by simpa using hperm⟩, _, _, _, rfl⟩ ?_ ?_ ?_
    · rintro j σ H' _ _; trivial
    · rintro j x σ H9 H10 hj ⟨s9, b9, gG9, ⟨cv, fs, cur, F, go9, hcv, gfa9, hfs, hcl, hperm⟩, x5, x10, x11, rfl⟩ ⟨rfl, rfl⟩
      have hFl : rows.flatten.length + cur.length + F.length = F0.length := by rw [← hperm.length_eq, List.length_append, List.length_append]
      have hFpos : 0 < F.length := by omega
      have hfl := paired_len hfs
      have hcvl := paired_len hcv
      -- behind the index
      have key : ∀ (k : Nat) (H11 : Hp), k < F.length → Same (dels [fo, b, fa, G] H10) (dels [fo, b, fa, G] H11) → BagAt H11 b sa → H11 G = some (.lst gs) → H11 fo = some (.lst cv) → H11 fa = some (.lst fs) →
          rPopAt (.ref fa) [.int (k : Nat)] H11 (fun y H12 => rAppend (.ref fo) [y] H12 (fun _ H' => Same (dels [fo, b, fa, G] H8) (dels [fo, b, fa, G] H') ∧ BagAt H' b sa ∧ H' G = some (.lst gs) ∧ (∃ (cv fs : List V) (cur F : List Pl), H' fo = some (.lst cv) ∧ Paired (PlAt (dels [fo, b, fa, G] H')) cv cur ∧ H' fa = some (.lst fs) ∧ Paired (PlAt (dels [fo, b, fa, G] H')) fs F ∧ cur.length = j + 1 ∧ (rows.flatten ++ cur ++ F).Perm F0) ∧
            ∃ y5 y10 y11, [some (.ref b), some (.ref a), some (.int mo), some (.ref D), some (.ref fa), x5, some (.bl strt), some (.ref G), some (.int (zi : Nat)), some (.ref fo), some (V.int (0 + (j : Int))), x11] = [some (.ref b), some (.ref a), some (.int mo), some (.ref D), some (.ref fa), y5, some (.bl strt), some (.ref G), some (.int (zi : Nat)), some (.ref fo), y10, y11])) := fun k H11 hk s11 b11 gG11 go11 gfa11 => by
        have hkf : k < fs.length := by omega
        obtain ⟨p, hp, hpl⟩ := paired_get hfs k (List.getElem?_eq_getElem hkf)
        refine ⟨fa, fs, _, k, fs[k], rfl, rfl, gfa11, by omega, by omega, seqIx hkf, List.getElem?_eq_getElem hkf, ?_⟩
        refine ⟨fo, cv, _, rfl, rfl, by rw [upd_ne nof.symm]; exact go11, snoc_le (by omega), ?_⟩
        have eD : ∀ {o o'}, dels [fo, b, fa, G] (upd (upd H11 fa o) fo o') = dels [fo, b, fa, G] H11 := fun {o o'} => by rw [dels_upd (by simp), dels_upd (by simp)]
        refine ⟨by rw [eD]; exact s9.trans s11, (b11.put nbf nsf).put nob nos, by rw [upd_ne noG, upd_ne nfG.symm]; exact gG11, ⟨cv ++ [fs[k]], fs.eraseIdx k, cur ++ [p], F.eraseIdx k, upd_same, ?_, by rw [upd_ne nof, upd_same], ?_, by rw [List.length_append, hcl]; rfl, ?_⟩, _, _, _, rfl⟩
        · rw [eD]; exact paired_snoc (pls_mono s11 hcv) (hpl.mono s11)
        · rw [eD]; exact paired_erase k (pls_mono s11 hfs)
        · have z : (p :: F.eraseIdx k).Perm F := erase_perm hp
          refine List.Perm.trans ?_ hperm
          rw [List.append_assoc, List.append_assoc, List.append_assoc]
          exact ((z.append_left cur).append_left rows.flatten)
      refine ⟨_, rfl, .inl ⟨rfl, _, SqL.of go9⟩, _, rfl, .inl ⟨rfl, _, SqL.of gfa9⟩, _, rfl, _, rfl, ?_⟩
      cases strt with
      | true => exact iteT (key 0 H10 hFpos (Same.refl _) b9 gG9 go9 gfa9)
      | false =>
        refine iteF ⟨_, rfl, _, rfl, fa, _, rfl, .inl (SqL.of gfa9), b, sa, _, rfl, b9, by omega, by omega, fun r H11 r0 r1 s11 b11 => ?_⟩
        obtain ⟨k, rfl⟩ : ∃ k : Nat, r = k := ⟨r.toNat, by omega⟩
        have keep : ∀ {c : Addr} {o : HO}, c ≠ b → H10 c = some o → H11 c = some o := fun {c o} hc hh => by
          have := s11 c o (by rw [del_ne hc]; exact hh)
          rw [del_ne hc] at this; exact this
        exact key k H11 (by omega) (same_dels_bag (by simp) s11) b11 (keep nGb.symm gG9) (keep nob.symm go9) (keep nbf.symm gfa9)
    · rintro σ H9 ⟨s9, b9, gG9, ⟨cv, fs, cur, F, go9, hcv, gfa9, hfs, hcl, hperm⟩, x5, x10, x11, rfl⟩
      refine ⟨_, rfl, .inl ⟨rfl, _, SqL.of gG9⟩, _, rfl, G, gs, _, rfl, rfl, gG9, snoc_le (by rw [paired_len hgs]; omega), ?_⟩
      have mono4 : Same (dels [fo, b, fa, G] H9) (dels [b, fa, G] H9) := same_dels_more fun a ha => List.mem_cons_of_mem _ ha
      have sAll : Same (dels [b, fa, G] H7) (dels [b, fa, G] H9) := sD7.trans (s9.trans mono4)
      have eD : ∀ {o}, dels [b, fa, G] (upd H9 G o) = dels [b, fa, G] H9 := fun {o} => dels_upd (by simp)
      refine ⟨by rw [eD]; exact s6.trans sAll, b9.put nGb nGs, ⟨rows ++ [cur], gs ++ [.ref fo], fs, F, upd_same, ?_, by rw [upd_ne nfG]; exact gfa9, by rw [eD]; exact pls_mono mono4 hfs, by rw [List.length_append, hrl]; rfl, fun j row z e1 e2 => ?_, ?_⟩, _, _, _, _, _, rfl⟩
      · rw [eD]
        refine paired_snoc (rows_mono sAll hgs) ⟨fo, cv, rfl, ?_, pls_mono mono4 hcv⟩
        rw [dels_out (by simp [nob.symm, nof.symm, noG.symm])]; exact go9
      · by_cases cj : j < rows.length
        · rw [List.getElem?_append_left cj] at e1
          exact hrz j row z e1 e2
        · have ej : j = i := by
            obtain ⟨hj, _⟩ := List.getElem?_eq_some_iff.mp e1
            rw [List.length_append, List.length_singleton] at hj; omega
          subst ej
          rw [List.getElem?_append_right (by omega), hrl, Nat.sub_self] at e1
          cases e1
          rw [ez] at e2
          cases e2
          exact hcl
      · rw [List.flatten_append]; simpa using hperm
  · rintro σ H6 ⟨s6, b6, ⟨rows, gs, fs, F, gG6, hgs, gfa6, hfs, hrl, hrz, hperm⟩, x5, x8, x9, x10, x11, rfl⟩
    rw [List.length_map] at hrl
    obtain ⟨_, ha6⟩ := keepD s6
    have hrf := flatten_len hrl hrz
    have hF : F = [] := by
      have := hperm.length_eq
      rw [List.length_append] at this
      exact List.eq_nil_of_length_eq_zero (by omega)
    subst hF
    rw [List.append_nil] at hperm
    refine ⟨_, rfl, _, rfl, (by show 2 ≤ sizeLine; decide), fun t ht => ?_⟩
    have s7 := same_new ht (.tup [.ref a, .ref G])
    refine q _ _ rows ?_ (b6.mono s7) ⟨t, _, _, rfl, upd_same, ⟨a, rfl, s7 _ _ ha6⟩, RowsAt.mono s7 ⟨G, gs, rfl, gG6, rows_mono same_of_dels hgs⟩⟩ (okm_deal h1 h6 hzl (hrl.trans hzl) (fun i d z e1 e2 => (hzb i d z e1 e2).1) hrz hsum (by rw [hF0]; exact hperm)) ?_
    case refine_2 =>
      intro row hrow
      obtain ⟨i, hi⟩ := List.mem_iff_getElem?.mp hrow
      obtain ⟨hil, _⟩ := List.getElem?_eq_some_iff.mp hi
      have hz := List.getElem?_eq_getElem (show i < zs.length by omega)
      have := hrz i row _ hi hz
      have := (hzb i _ _ (List.getElem?_eq_getElem (show i < ds.length by omega)) hz).2
      omega
    intro c o hh
    have w4 := s04 c o hh
    obtain ⟨w5, w6⟩ := of_del w4
    have nc1 : c ≠ G := ne_of_none w5 hG
    have nc2 : c ≠ fa := ne_of_none (of_del (s1 c o hh)).1 hfa
    have nL : c ∉ [b, fa, G] := by simp [w6, nc1, nc2]
    have := (of_dels (s6 c o (by rw [dels_out nL]; exact s45 _ _ w5))).1
    rw [del_ne w6]
    exact s7 _ _ this
end
end L2.FK
namespace L2.FK
open PySem PySem.Spec PyProof.Rows L2.FL
theorem sq_sm {K : PySem.W.Frag} {H H' : Hp} {a : Addr} {xs : List V} (s : Same H H') (h : SqT K H a xs) : SqT K H' a xs := by
  rcases h with (h | ⟨o, h⟩) | h
  · exact .inl (.inl (s _ _ h))
  · exact .inl (.inr ⟨o, s _ _ h⟩)
  · exact .inr h
theorem ty_sq {K : PySem.W.Frag} {H : Hp} {a : Addr} {xs : List V} (h : SqT K H a xs) : TyX K H (.ref a) (.type "tuple") := by
  rcases h with (h | ⟨o, h⟩) | ⟨o, its, n, h1, h2, _⟩
  · exact .base (.tup h)
  · exact .fTuple h
  · exact .kTuple h1 h2
/-- x and y are alike data, to the depth n -/
def Alk (K : PySem.W.Frag) (H : Hp) : Nat → V → V → Prop
  | 0, _, _ => False
  | n + 1, x, y => (∃ i : Int, x = .int i ∧ y = .int i) ∨ (∃ z : Str, x = .str z ∧ y = .str z) ∨ (x = .non ∧ y = .non) ∨ (∃ z : Bool, x = .bl z ∧ y = .bl z) ∨ ∃ a b xs ys, x = .ref a ∧ y = .ref b ∧ ((H a = some (.lst xs) ∧ H b = some (.lst ys)) ∨ (SqT K H a xs ∧ SqT K H b ys)) ∧ Paired (Alk K H n) xs ys ∧ xs.length ≤ 3000
theorem Alk.mono {K : PySem.W.Frag} {H H' : Hp} (s : Same H H') : ∀ {n : Nat} {x y : V}, Alk K H n x y → Alk K H' n x y
  | 0, _, _, h => h
  | n + 1, x, y, h => by
    rcases h with h | h | h | h | ⟨a, b, xs, ys, e1, e2, h1, h2, h3⟩
    · exact .inl h
    · exact .inr (.inl h)
    · exact .inr (.inr (.inl h))
    · exact .inr (.inr (.inr (.inl h)))
    · refine .inr (.inr (.inr (.inr ⟨a, b, xs, ys, e1, e2, ?_, paired_mono h2 fun _ _ z => Alk.mono s z, h3⟩)))
      rcases h1 with h1 | h1
      · exact .inl ⟨s _ _ h1.1, s _ _ h1.2⟩
      · exact .inr ⟨sq_sm s h1.1, sq_sm s h1.2⟩
theorem Alk.up {K : PySem.W.Frag} {H : Hp} : ∀ {n : Nat} {x y : V}, Alk K H n x y → Alk K H (n + 1) x y
  | 0, _, _, h => h.elim
  | n + 1, x, y, h => by
    rcases h with h | h | h | h | ⟨a, b, xs, ys, e1, e2, h1, h2, h3⟩
    · exact .inl h
    · exact .inr (.inl h)
    · exact .inr (.inr (.inl h))
    · exact .inr (.inr (.inr (.inl h)))
    · exact .inr (.inr (.inr (.inr ⟨a, b, xs, ys, e1, e2, h1, paired_mono h2 fun _ _ z => Alk.up z, h3⟩)))
theorem kt_list (K : PySem.W.Frag) : PySem.W.kitAny K (.type "list") [.type "list", .type "tuple"] = some true := kitAny_cons (b := true) (kit_ty (by decide +kernel)) (fun z => by cases z) (fun _ => rfl)
theorem kt_tuple (K : PySem.W.Frag) : PySem.W.kitAny K (.type "tuple") [.type "list", .type "tuple"] = some true := kitAny_cons (b := false) (kit_ty (by decide +kernel)) (fun _ => kitAny_cons (b := true) (kit_ty (by decide +kernel)) (fun z => by cases z) (fun _ => rfl)) (fun z => by cases z)
theorem kt_int (K : PySem.W.Frag) : PySem.W.kitAny K (.type "int") [.type "list", .type "tuple"] = some false := kitAny_cons (b := false) (kit_ty (by decide +kernel)) (fun _ => kitAny_cons (b := false) (kit_ty (by decide +kernel)) (fun _ => rfl) (fun z => by cases z)) (fun z => by cases z)
theorem kt_str (K : PySem.W.Frag) : PySem.W.kitAny K (.type "str") [.type "list", .type "tuple"] = some false := kitAny_cons (b := false) (kit_ty (by decide +kernel)) (fun _ => kitAny_cons (b := false) (kit_ty (by decide +kernel)) (fun _ => rfl) (fun z => by cases z)) (fun z => by cases z)
theorem kt_non (K : PySem.W.Frag) : PySem.W.kitAny K (.type "NoneType") [.type "list", .type "tuple"] = some false := kitAny_cons (b := false) (kit_ty (by decide +kernel)) (fun _ => kitAny_cons (b := false) (kit_ty (by decide +kernel)) (fun _ => rfl) (fun z => by cases z)) (fun z => by cases z)
theorem kt_bool (K : PySem.W.Frag) : PySem.W.kitAny K (.type "bool") [.type "list", .type "tuple"] = some false := kitAny_cons (b := false) (kit_ty (by decide +kernel)) (fun _ => kitAny_cons (b := false) (kit_ty (by decide +kernel)) (fun _ => rfl) (fun z => by cases z)) (fun z => by cases z)
theorem k_bb (K : PySem.W.Frag) : PySem.W.kitOne K (.type "bool") (.type "bool") = some true := kit_ty (by decide +kernel)
theorem k_sb (K : PySem.W.Frag) : PySem.W.kitOne K (.type "str") (.type "bool") = some false := kit_ty (by decide +kernel)
theorem k_si (K : PySem.W.Frag) : PySem.W.kitOne K (.type "str") (.type "int") = some false := kit_ty (by decide +kernel)
theorem k_ss (K : PySem.W.Frag) : PySem.W.kitOne K (.type "str") (.type "str") = some true := kit_ty (by decide +kernel)
theorem k_ll (K : PySem.W.Frag) : PySem.W.kitOne K (.type "list") (.type "list") = some true := kit_ty (by decide +kernel)
theorem k_lt (K : PySem.W.Frag) : PySem.W.kitOne K (.type "list") (.type "tuple") = some false := kit_ty (by decide +kernel)
theorem k_tl (K : PySem.W.Frag) : PySem.W.kitOne K (.type "tuple") (.type "list") = some false := kit_ty (by decide +kernel)
theorem k_tt (K : PySem.W.Frag) : PySem.W.kitOne K (.type "tuple") (.type "tuple") = some true := kit_ty (by decide +kernel)
theorem k_ib (K : PySem.W.Frag) : PySem.W.kitOne K (.type "int") (.type "bool") = some false := kit_ty (by decide +kernel)
theorem k_ii (K : PySem.W.Frag) : PySem.W.kitOne K (.type "int") (.type "int") = some true := kit_ty (by decide +kernel)
theorem k_is' (K : PySem.W.Frag) : PySem.W.kitOne K (.type "int") (.type "str") = some false := kit_ty (by decide +kernel)
section
variable {X : Cx}
/-- xs[i] of a list or of a tuple -/
theorem ix_both (K : PySem.W.Frag) (h : X.K = K := by rfl) : IxR X (fun x y H Q => rIxL K x y H Q ∨ rIxT K x y H Q) := by subst h; exact ix_list.or ix_tup
theorem c_isi (K : PySem.W.Frag) (h : X.K = K := by rfl) : CallR X (.builtin "isinstance") (rIsi K) := by subst h; exact call_isi
end
section
variable {P : Program} {w : World} {K : PySem.W.Frag} {mg : Str → Option Value} {base : Heap} {C : Addr}
abbrev nLk : List Str := ["_law_found", "_law_due", "_law_kinds", "_law_one", "_law_k"]
def spLike (K : PySem.W.Frag) (n : Nat) : Sp := fun vs H Q _ => ∃ x y, vs = [x, y] ∧ Alk K H n x y ∧ ∀ H', Same H H' → Q (.bl true) H'
theorem sc_lk : FnScope nLk ["_law_found", "_law_due"] (C8.fnScope sLike) := C8.fnScope_by (by decide +kernel)
theorem like_zero (h : Has K mg "_law_like" sLike ["_law_found", "_law_due"]) : C8.Cal P w K mg base 0 "_law_like" (spLike K 0) [] := by
  obtain ⟨f, fd, F, b⟩ := h
  have no : ∀ vs H Q E, ¬ spLike K 0 vs H Q E := fun vs H Q E z => by obtain ⟨x, y, _, z, _⟩ := z; exact z
  exact ⟨f, fd, _, [], ⟨fun vs H Q E z => absurd z (no vs H Q E), fun A outer s H args us vs Q E _ _ _ _ z => absurd z (no vs H Q E)⟩, F.mgf, F.kp, b, .nil⟩
theorem like_succ {n : Nat} (h : Has K mg "_law_like" sLike ["_law_found", "_law_due"]) (B : Bl mg) (c : C8.Cal P w K mg base n "_law_like" (spLike K n) []) : C8.Cal P w K mg base (n + 1) "_law_like" (spLike K (n + 1)) [] := by
  refine cal_of h sc_lk (fun vs H Q E z => ?_) (fun f cdv A outer s H vs Q E hr z => ?_)
  · obtain ⟨x, y, rfl, _⟩ := z; rfl
  obtain ⟨x, y, rfl, hxy, q⟩ := z
  have nd := sc_lk.nd
  refine ⟨_, pss_cons (ps_if (pt_val (pe_callB call_isiT (by rfl) B.isinstance bt_isinstance (pa_cons (pv 1) (pa_cons (pe_tup (pa_cons (pe_bltn (v := .ty "list") (by rfl) B.list bt_list rfl) (pa_cons (pe_bltn (v := .ty "tuple") (by rfl) B.tuple bt_tuple rfl) pa_nil))) pa_nil))))
      (pss_cons (ps_setLc (i := 2) (own := [("_law_one", 3)]) (g := gName 3) (tt := tYes) rfl nd rfl rfl (sw_true rfl rfl rfl (by decide +kernel)) (pi_tup (pe_tup (pa_cons (pv 0) (pa_cons (pv 1) pa_nil)))) (blkOk_by (own := [("_law_one", 3)]) (N := nLk) (sc := C8.fnScope sLike) (by decide +kernel))
        (fun _ _ _ _ _ => pg_name (i := 3) nd rfl (Or.inl rfl)) (fun _ _ _ _ _ => pts_nil)
        (fun _ _ _ _ _ => pe_tup (pa_cons (pe_callB (c_isi K) (by rfl) B.isinstance bt_isinstance (pa_cons (pv 3) (pa_cons (pe_bltn (v := .ty "list") (by rfl) B.list bt_list rfl) pa_nil)))
          (pa_cons (pe_callB (c_isi K) (by rfl) B.isinstance bt_isinstance (pa_cons (pv 3) (pa_cons (pe_bltn (v := .ty "tuple") (by rfl) B.tuple bt_tuple rfl) pa_nil))) pa_nil))))
      (pss_cons (ps_if (PW.pt (pw_or (pt_cmpR (op_neD hr.units) (pe_ix ix_list (pv 2) pe_int (fun _ _ => rfl)) (pe_ix ix_list (pv 2) pe_int (fun _ _ => rfl)) (nomark _))
          (pw_or1 (pt_cmpR op_ne (pe_callB call_len_seq (by rfl) B.len bt_len (pa_cons (pv 0) pa_nil)) (pe_callB call_len_seq (by rfl) B.len bt_len (pa_cons (pv 1) pa_nil)) (nomark _))))) (pss_one ps_never) pss_nil)
      (pss_one (ps_ret (pe_callB (cr_all rfl) (by rfl) B.all bt_all (pa_cons (pe_lc (own := [("_law_k", 4)]) (g := gName 4) (tt := tYes) rfl nd (pi_range1 rfl B.range (pa_cons (pe_callB call_len_seq (by rfl) B.len bt_len (pa_cons (pv 1) pa_nil)) pa_nil))
        (blkOk_by (own := [("_law_k", 4)]) (N := nLk) (sc := C8.fnScope sLike) (by decide +kernel)) (fun _ _ _ _ _ => pg_name (i := 4) nd rfl (Or.inl rfl)) (fun _ _ _ _ _ => pts_nil)
        (fun _ _ _ _ _ => C8.pe_c c hr (Nat.le_refl _) rfl (pa_cons (pe_ix (ix_both K) (pv 0) (pv 4) (fun _ _ => rfl)) (pa_cons (pe_ix (ix_both K) (pv 1) (pv 4) (fun _ _ => rfl)) pa_nil)))) pa_nil)))))) pss_nil)
    (pss_cons (ps_if (PW.pt (pw_or (pt_cmpR op_isN (pv 1) pe_non (nomark _)) (pw_or1 (pt_cmpR op_isN (pv 0) pe_non (nomark _))))) (pss_one (ps_ret (pe_and (pe_cmpR op_isN (pv 1) pe_non (nomark _)) (pe_one (pe_cmpR op_isN (pv 0) pe_non (nomark _)))))) pss_nil)
    (pss_cons (ps_if (PW.pt (pw_or (pt_val (pe_callB (c_isi K) (by rfl) B.isinstance bt_isinstance (pa_cons (pv 1) (pa_cons (pe_bltn (v := .ty "bool") (by rfl) B.bool bt_bool rfl) pa_nil))))
      (pw_or1 (pt_val (pe_callB (c_isi K) (by rfl) B.isinstance bt_isinstance (pa_cons (pv 0) (pa_cons (pe_bltn (v := .ty "bool") (by rfl) B.bool bt_bool rfl) pa_nil))))))) (pss_one (ps_ret (pe_and (pe_callB (c_isi K) (by rfl) B.isinstance bt_isinstance (pa_cons (pv 1) (pa_cons (pe_bltn (v := .ty "bool") (by rfl) B.bool bt_bool rfl) pa_nil)))
        (pe_and (pe_callB (c_isi K) (by rfl) B.isinstance bt_isinstance (pa_cons (pv 0) (pa_cons (pe_bltn (v := .ty "bool") (by rfl) B.bool bt_bool rfl) pa_nil))) (pe_one (pe_cmpR op_eq (pv 0) (pv 1) (nomark _))))))) pss_nil)
    (pss_cons (ps_if (PW.pt (pw_or (pt_cmpR op_ne (pe_callB (c_isi K) (by rfl) B.isinstance bt_isinstance (pa_cons (pv 0) (pa_cons (pe_bltn (v := .ty "int") (by rfl) B.int bt_int rfl) pa_nil))) (pe_callB (c_isi K) (by rfl) B.isinstance bt_isinstance (pa_cons (pv 1) (pa_cons (pe_bltn (v := .ty "int") (by rfl) B.int bt_int rfl) pa_nil))) (nomark _))
      (pw_or1 (pt_cmpR op_ne (pe_callB (c_isi K) (by rfl) B.isinstance bt_isinstance (pa_cons (pv 0) (pa_cons (pe_bltn (v := .ty "str") (by rfl) B.str bt_str rfl) pa_nil))) (pe_callB (c_isi K) (by rfl) B.isinstance bt_isinstance (pa_cons (pv 1) (pa_cons (pe_bltn (v := .ty "str") (by rfl) B.str bt_str rfl) pa_nil))) (nomark _))))) (pss_one ps_never) pss_nil)
    (pss_one (ps_ret (pe_cmpR op_eq (pv 0) (pv 1) (nomark _))))))), ?_⟩
  refine ⟨_, rfl, (by show 2 ≤ sizeLine; decide), fun tp htp => ?_⟩
  have s1 := same_new htp (.tup [.ty "list", .ty "tuple"])
  have g1 : upd H tp (.tup [.ty "list", .ty "tuple"]) tp = some (.tup [.ty "list", .ty "tuple"]) := upd_same
  have cls : Paired ClsV [.ty "list", .ty "tuple"] [Value.type "list", Value.type "tuple"] := .cons (.ty _) (.cons (.ty _) .nil)
  rcases hxy with ⟨i, rfl, rfl⟩ | ⟨z, rfl, rfl⟩ | ⟨rfl, rfl⟩ | ⟨z, rfl, rfl⟩ | ⟨a, b, xs, ys, rfl, rfl, hab, hps, hlen⟩
  · refine ⟨_, tp, _, _, _, false, rfl, g1, cls, .base (.int i), kt_int K, _, rfl, iteF ?_⟩
    generalize upd H tp (.tup [.ty "list", .ty "tuple"]) = H1 at s1 g1
    refine ⟨_, rfl, rfl, _, rfl, iteF ⟨_, rfl, rfl, _, rfl, iteF ?_⟩⟩
    refine ⟨_, rfl, _, _, _, _, false, rfl, .ty _, .base (.int i), k_ib K, _, rfl, iteF ⟨_, rfl, _, _, _, _, false, rfl, .ty _, .base (.int i), k_ib K, _, rfl, iteF ?_⟩⟩
    refine ⟨_, rfl, _, _, _, _, true, rfl, .ty _, .base (.int i), k_ii K, _, rfl, _, _, _, _, true, rfl, .ty _, .base (.int i), k_ii K, rfl, _, rfl, iteF ?_⟩
    refine ⟨_, rfl, _, _, _, _, false, rfl, .ty _, .base (.int i), k_is' K, _, rfl, _, _, _, _, false, rfl, .ty _, .base (.int i), k_is' K, rfl, _, rfl, iteF ?_⟩
    refine ⟨_, rfl, _, rfl, rfl, ?_⟩
    rw [decide_eq_true rfl]
    exact q _ s1
  · refine ⟨_, tp, _, _, _, false, rfl, g1, cls, .base (.str z), kt_str K, _, rfl, iteF ?_⟩
    generalize upd H tp (.tup [.ty "list", .ty "tuple"]) = H1 at s1 g1
    refine ⟨_, rfl, rfl, _, rfl, iteF ⟨_, rfl, rfl, _, rfl, iteF ?_⟩⟩
    refine ⟨_, rfl, _, _, _, _, false, rfl, .ty _, .base (.str z), k_sb K, _, rfl, iteF ⟨_, rfl, _, _, _, _, false, rfl, .ty _, .base (.str z), k_sb K, _, rfl, iteF ?_⟩⟩
    refine ⟨_, rfl, _, _, _, _, false, rfl, .ty _, .base (.str z), k_si K, _, rfl, _, _, _, _, false, rfl, .ty _, .base (.str z), k_si K, rfl, _, rfl, iteF ?_⟩
    refine ⟨_, rfl, _, _, _, _, true, rfl, .ty _, .base (.str z), k_ss K, _, rfl, _, _, _, _, true, rfl, .ty _, .base (.str z), k_ss K, rfl, _, rfl, iteF ?_⟩
    refine ⟨_, rfl, _, rfl, rfl, ?_⟩
    rw [decide_eq_true rfl]
    exact q _ s1
  · refine ⟨_, tp, _, _, _, false, rfl, g1, cls, .base .non, kt_non K, _, rfl, iteF ?_⟩
    generalize upd H tp (.tup [.ty "list", .ty "tuple"]) = H1 at s1 g1
    refine ⟨_, rfl, rfl, _, rfl, iteT ?_⟩
    refine ⟨_, rfl, rfl, _, rfl, iteT ?_⟩
    exact ⟨_, rfl, rfl, q _ s1⟩
  · refine ⟨_, tp, _, _, _, false, rfl, g1, cls, .base (.bl z), kt_bool K, _, rfl, iteF ?_⟩
    generalize upd H tp (.tup [.ty "list", .ty "tuple"]) = H1 at s1 g1
    refine ⟨_, rfl, rfl, _, rfl, iteF ⟨_, rfl, rfl, _, rfl, iteF ?_⟩⟩
    refine ⟨_, rfl, _, _, _, _, true, rfl, .ty _, .base (.bl z), k_bb K, _, rfl, iteT ?_⟩
    refine ⟨_, rfl, _, _, _, _, true, rfl, .ty _, .base (.bl z), k_bb K, _, rfl, iteT ?_⟩
    refine ⟨_, rfl, _, _, _, _, true, rfl, .ty _, .base (.bl z), k_bb K, _, rfl, iteT ?_⟩
    refine ⟨_, rfl, _, rfl, rfl, ?_⟩
    rw [decide_eq_true rfl]
    exact q _ s1
  · generalize upd H tp (.tup [.ty "list", .ty "tuple"]) = H1 at s1 g1
    have hpl := paired_len hps
    -- the kind of both
    obtain ⟨ty, c1, c2, hty, k0, k1, k2, hsq⟩ : ∃ (ty : Value) (c1 c2 : Bool), (∀ {H'}, Same H H' → TyX K H' (.ref a) ty ∧ TyX K H' (.ref b) ty) ∧ PySem.W.kitAny K ty [.type "list", .type "tuple"] = some true ∧ PySem.W.kitOne K ty (.type "list") = some c1 ∧ PySem.W.kitOne K ty (.type "tuple") = some c2 ∧
        ∀ {H'}, Same H H' → (SqL K H' a xs ∧ SqL K H' b ys) ∨ (SqT K H' a xs ∧ SqT K H' b ys) := by
      rcases hab with ⟨h1, h2⟩ | ⟨h1, h2⟩
      · exact ⟨.type "list", true, false, fun s' => ⟨.base (.lst (s' _ _ h1)), .base (.lst (s' _ _ h2))⟩, kt_list K, k_ll K, k_lt K, fun s' => .inl ⟨SqL.of (s' _ _ h1), SqL.of (s' _ _ h2)⟩⟩
      · exact ⟨.type "tuple", false, true, fun s' => ⟨ty_sq (sq_sm s' h1), ty_sq (sq_sm s' h2)⟩, kt_tuple K, k_tl K, k_tt K, fun s' => .inr ⟨sq_sm s' h1, sq_sm s' h2⟩⟩
    have hsA : ∀ {H'}, Same H H' → SqL K H' a xs ∨ SqT K H' a xs := fun s' => (hsq s').elim (fun z => .inl z.1) fun z => .inr z.1
    have hsB : ∀ {H'}, Same H H' → SqL K H' b ys ∨ SqT K H' b ys := fun s' => (hsq s').elim (fun z => .inl z.2) fun z => .inr z.2
    refine ⟨_, tp, _, _, _, true, rfl, g1, cls, (hty s1).2, k0, _, rfl, iteT ?_⟩
    -- kinds
    refine ⟨_, rfl, _, rfl, (by show 2 ≤ sizeLine; decide), fun t2 ht2 => ?_⟩
    have s2 := s1.trans (same_new ht2 (.tup [.ref a, .ref b]))
    have g2 : upd H1 t2 (.tup [.ref a, .ref b]) t2 = some (.tup [.ref a, .ref b]) := upd_same
    generalize upd H1 t2 (.tup [.ref a, .ref b]) = H2 at s2 g2
    refine ⟨t2, rfl, ⟨_, .inl (.inl g2)⟩, fun D hD => ?_⟩
    refine lc_it (walk_tup (K := K) (a := t2) (xs := [.ref a, .ref b])) (fun i H' => Same H2 (del D H') ∧ ∃ ts : List Addr, H' D = some (.lst (ts.map V.ref)) ∧ ts.length = i ∧ ∀ t ∈ ts, del D H' t = some (.tup [.bl c1, .bl c2])) ?_ ?_ ?_ ?_
    · exact ⟨by rw [del_upd]; exact same_del (Same.refl _) hD, [], upd_same, rfl, fun t ht => by cases ht⟩
    · rintro i H' _ ⟨s', _⟩; exact .inl (.inl (del_same _ _ (s' _ _ g2)))
    · rintro i z H3 H4 hi ⟨s3, ts, g3, htl, hts⟩ ⟨rfl, hz⟩
      have s03 : Same H H4 := s2.trans (s3.trans del_same)
      have tz : TyX K H4 z ty := by
        have hi : i < 2 := hi
        match i, hi, hz with
        | 0, _, hz => cases hz; exact (hty s03).1
        | 1, _, hz => cases hz; exact (hty s03).2
      refine ⟨rfl, _, rfl, _, _, _, _, c1, rfl, .ty _, tz, k1, _, rfl, _, _, _, _, c2, rfl, .ty _, tz, k2, (by show 2 ≤ sizeLine; decide), fun t ht => ?_⟩
      have nt : t ≠ D := (ne_of_none g3 ht).symm
      have hi : i < 2 := hi
      refine ⟨_, by rw [upd_ne nt.symm]; exact g3, snoc_le (by rw [List.length_map]; omega), ?_⟩
      have ed : ∀ {o o'}, del D (upd (upd H4 t o) D o') = upd (del D H4) t o := fun {o o'} => by rw [del_upd, del_upd_ne nt]
      refine ⟨by rw [ed]; exact s3.trans (same_new (none_del ht) _), ts ++ [t], by rw [upd_same, List.map_append]; rfl, by rw [List.length_append, htl]; rfl, fun u hu => ?_⟩
      rw [ed]
      rcases List.mem_append.mp hu with hu | hu
      · rw [upd_ne (ne_of_none (hts u hu) (none_del ht))]; exact hts u hu
      · rw [List.mem_singleton.mp hu, upd_same]
    rintro H3 ⟨s3, ts, g3, htl, hts⟩
    have s03 : Same H H3 := s2.trans (s3.trans del_same)
    match ts, htl, hts, g3 with
    | [ta, tb], _, hts, g3 =>
      have hta := del_same _ _ (hts ta (by simp))
      have htb := del_same _ _ (hts tb (by simp))
      have dpa : ∀ {t}, H3 t = some (.tup [.bl c1, .bl c2]) → Dp K H3 (.ref t) (.tuple [.bool c1, .bool c2]) := fun e => .tup (.inl (.inl e)) (.cons (.bl _) (.cons (.bl _) .nil))
      refine ⟨_, rfl, D, _, _, _, rfl, rfl, SqL.of g3, rfl, _, rfl, D, _, _, _, rfl, rfl, SqL.of g3, rfl, _, _, dpa hta, dpa htb, rfl, rfl, _, rfl, ?_⟩
      have ee : PyData.eqv (.tuple [.bool c1, .bool c2]) (.tuple [.bool c1, .bool c2]) = true := by cases c1 <;> cases c2 <;> rfl
      rw [ee]
      refine iteF ⟨_, rfl, a, xs, rfl, hsA s03, _, rfl, b, ys, rfl, hsB s03, rfl, _, rfl, ?_⟩
      refine iteNS (by rw [hpl]) ?_
      -- all
      refine ⟨_, rfl, b, ys, rfl, hsB s03, _, rfl, by omega, by omega, fun E2 hE => ?_⟩
      rw [Int.toNat_natCast]
      refine lc_it (walk_range (lo := 0) (n := ys.length)) (fun i H' => Same H3 (del E2 H') ∧ H' E2 = some (.lst ((List.replicate i true).map V.bl))) ?_ ?_ ?_ ?_
      · exact ⟨by rw [del_upd]; exact same_del (Same.refl _) hE, upd_same⟩
      · rintro i H' _ _; trivial
      · rintro i z H4 H5 hi ⟨s4, g4⟩ ⟨rfl, rfl⟩
        have s05 : Same H H5 := s03.trans (s4.trans del_same)
        have hix : i < xs.length := by omega
        obtain ⟨y, hy, hal⟩ := paired_get hps i (List.getElem?_eq_getElem hix)
        have e0 : (0 : Int) + (i : Int) = (i : Int) := by omega
        have ax : atI xs (0 + (i : Int)) = some xs[i] := by rw [e0]; exact atI_nat (List.getElem?_eq_getElem hix)
        have ay : atI ys (0 + (i : Int)) = some y := by rw [e0]; exact atI_nat hy
        refine ⟨rfl, _, rfl, _, rfl, ?_⟩
        have fin : spLike K n [xs[i], y] H5 (fun v H6 => ∃ acc, H6 E2 = some (.lst acc) ∧ acc.length < sizeLine ∧ Same H3 (del E2 (upd H6 E2 (.lst (acc ++ [v])))) ∧ upd H6 E2 (.lst (acc ++ [v])) E2 = some (.lst ((List.replicate (i + 1) true).map V.bl))) C8.E0 := by
          refine ⟨_, _, rfl, hal.mono s05, fun H6 s6 => ⟨_, s6 _ _ g4, snoc_le (by rw [List.length_map, List.length_replicate]; omega), by rw [del_upd]; exact s4.trans (same_dels s6), ?_⟩⟩
          rw [upd_same, List.replicate_succ', List.map_append]; rfl
        rcases hsq s05 with ⟨sa, sb⟩ | ⟨sa, sb⟩
        · exact .inl ⟨a, xs, _, _, rfl, rfl, sa, ax, _, rfl, _, rfl, .inl ⟨b, ys, _, _, rfl, rfl, sb, ay, fin⟩⟩
        · exact .inr ⟨a, xs, _, _, rfl, rfl, sa, ax, _, rfl, _, rfl, .inr ⟨b, ys, _, _, rfl, rfl, sb, ay, fin⟩⟩
      · rintro H4 ⟨s4, g4⟩
        refine ⟨E2, _, rfl, SqL.of g4, ?_⟩
        have : (List.replicate ys.length true).all id = true := by simp
        rw [this]
        exact q _ (s03.trans (s4.trans del_same))
theorem ok_like (h : Has K mg "_law_like" sLike ["_law_found", "_law_due"]) (B : Bl mg) : ∀ n, C8.Cal P w K mg base n "_law_like" (spLike K n) []
  | 0 => like_zero h
  | n + 1 => like_succ h B (ok_like h B n)
/-! ### _law_is_map -/
theorem LMap.ins' {C : Addr} {H : Hp} {v : V} {ds : List Int} {T : List (List Pl)} (h : LMap C H v ds T) : ∃ p dx fs, v = .ref p ∧ H p = some (.ins C dx fs) ∧ (∀ m : Str, ¬ m = "origins" → ¬ m = "images" → ¬ m = "rows" → ¬ m = "shifts" → fs.lookup m = none) :=
  let ⟨p, dx, a1, v2, a3, a4, im, og, e, h1, _⟩ := h
  ⟨p, dx, _, e, h1, fun m => fl_no _ _ _ _⟩
theorem alk_pl {K : PySem.W.Frag} {H : Hp} {v u : V} {p : Pl} (hv : PlAt H v p) (hu : PlAt H u p) : Alk K H 2 v u := by
  obtain ⟨t, rfl, ht⟩ := hv
  obtain ⟨t', rfl, ht'⟩ := hu
  exact .inr (.inr (.inr (.inr ⟨t, t', _, _, rfl, rfl, .inr ⟨.inl (.inl ht), .inl (.inl ht')⟩, .cons (.inl ⟨_, rfl, rfl⟩) (.cons (.inl ⟨_, rfl, rfl⟩) .nil), by simp⟩)))
theorem paired_two {α : Type} {F G : V → α → Prop} {R : V → V → Prop} : ∀ {vs us : List V} {l : List α}, Paired F vs l → Paired G us l → (∀ x y a, F x a → G y a → R x y) → Paired R vs us
  | _, _, _, .nil, .nil, _ => .nil
  | _, _, _, .cons a t, .cons b u, h => .cons (h _ _ _ a b) (paired_two t u h)
theorem alk_row {K : PySem.W.Frag} {H : Hp} {v u : V} {row : List Pl} (hv : RowAt H v row) (hu : RowAt H u row) (hl : row.length ≤ 2000) : Alk K H 3 v u := by
  obtain ⟨a, vs, rfl, ha, hp⟩ := hv
  obtain ⟨a', vs', rfl, ha', hp'⟩ := hu
  exact .inr (.inr (.inr (.inr ⟨a, a', vs, vs', rfl, rfl, .inl ⟨ha, ha'⟩, paired_two hp hp' fun _ _ _ z1 z2 => alk_pl z1 z2, by rw [paired_len hp]; omega⟩)))
theorem paired_all {α : Type} {F : V → α → Prop} {Pm : α → Prop} : ∀ {vs : List V} {l : List α}, Paired F vs l → (∀ x ∈ l, Pm x) → Paired (fun v x => F v x ∧ Pm x) vs l
  | _, _, .nil, _ => .nil
  | _, _, .cons a t, h => .cons ⟨a, h _ List.mem_cons_self⟩ (paired_all t fun x hx => h x (List.mem_cons_of_mem _ hx))
theorem alk_rows {K : PySem.W.Frag} {H : Hp} {v u : V} {rows : List (List Pl)} (hv : RowsAt H v rows) (hu : RowsAt H u rows) (hl : ∀ row ∈ rows, row.length ≤ 2000) (hr : rows.length ≤ 6) : Alk K H 4 v u := by
  obtain ⟨a, vs, rfl, ha, hp⟩ := hv
  obtain ⟨a', vs', rfl, ha', hp'⟩ := hu
  exact .inr (.inr (.inr (.inr ⟨a, a', vs, vs', rfl, rfl, .inl ⟨ha, ha'⟩, paired_two (paired_all hp hl) hp' fun _ _ _ z1 z2 => alk_row z1.1 z2 z1.2, by rw [paired_len hp]; omega⟩)))
theorem alk_ints {K : PySem.W.Frag} {H : Hp} {v u : V} {ds : List Int} (hv : IntsAt H v ds) (hu : IntsAt H u ds) (hl : ds.length ≤ 6) {n : Nat} : Alk K H (n + 2) v u := by
  obtain ⟨a, rfl, ha⟩ := hv
  obtain ⟨a', rfl, ha'⟩ := hu
  refine .inr (.inr (.inr (.inr ⟨a, a', _, _, rfl, rfl, .inl ⟨ha, ha'⟩, ?_, by rw [List.length_map]; omega⟩)))
  clear ha ha' hl
  induction ds with
  | nil => exact .nil
  | cons d ds ih => exact .cons (.inl ⟨d, rfl, rfl⟩) ih
def spIsMap (C : Addr) : Sp := fun vs H Q _ => ∃ (v u : V) (ds : List Int) (T : List (List Pl)), vs = [v, u] ∧ LMap C H v ds T ∧ DAt H u ds T ∧ Okm ds T ∧ ∀ H', Same H H' → Q (.bl true) H'
theorem sc_im : FnScope ["_law_found", "_law_d"] ["_law_found", "_law_d"] (C8.fnScope sIsMap) := C8.fnScope_by (by decide +kernel)
theorem ok_is_map (h : Has K mg "_law_is_map" sIsMap ["_law_found", "_law_d"]) (X : Tx K mg C) (B : Bl mg) (IC : C8.InsC K C) (mD : C8.Met P w K mg base 1 C "drifts" (spDr C) []) (mG : C8.Met P w K mg base 1 C "goals" (spGs C) []) (cL : C8.Cal P w K mg base 5 "_law_like" (spLike K 5) []) : C8.Cal P w K mg base 6 "_law_is_map" (spIsMap C) [] := by
  refine cal_of h sc_im (fun vs H Q E z => ?_) (fun f cdv A outer s H vs Q E hr z => ?_)
  · obtain ⟨v, u, ds, T, rfl, _⟩ := z; rfl
  obtain ⟨v, u, ds, T, rfl, hv, hu, ok, q⟩ := z
  obtain ⟨dt, v1, v2, rfl, hdt, hI, hR⟩ := hu
  obtain ⟨p, dx, fs, rfl, h1, n1⟩ := hv.ins'
  refine ⟨_, pss_cons (ps_if (pt_not (pt_val (pe_callB (C8.call_isC IC) (by rfl) B.isinstance bt_isinstance (pa_cons (pv 0) (pa_cons (pe_glob (v := .ref C) rfl X.mgC rfl) pa_nil))))) (pss_one ps_never) pss_nil)
    (pss_one (ps_ret (C8.pe_c cL hr (by decide) rfl (pa_cons (pe_lst (pa_cons (C8.pe_mt0 mD hr (by decide) (pv 0)) (pa_cons (C8.pe_mt0 mG hr (by decide) (pv 0)) pa_nil)))
      (pa_cons (pe_lst (pa_cons (pe_ix ix_tup (pv 1) pe_int (fun _ _ => rfl)) (pa_cons (pe_ix ix_tup (pv 1) pe_int (fun _ _ => rfl)) pa_nil))) pa_nil))))), ?_⟩
  refine ⟨_, rfl, p, dx, fs, rfl, h1, _, rfl, iteF ?_⟩
  have hTl := ok.len
  have h6 := ok.hi
  refine ⟨_, rfl, p, dx, fs, rfl, h1, n1 _ (by decide +kernel) (by decide +kernel) (by decide +kernel) (by decide +kernel), _, ds, T, rfl, hv, fun b1 hb1 => ?_⟩
  have s1 := same_new hb1 (.lst (ds.map V.int))
  have g1 : upd H b1 (.lst (ds.map V.int)) b1 = some (.lst (ds.map V.int)) := upd_same
  generalize upd H b1 (.lst (ds.map V.int)) = H1 at s1 g1
  refine ⟨_, rfl, p, dx, fs, rfl, s1 _ _ h1, n1 _ (by decide +kernel) (by decide +kernel) (by decide +kernel) (by decide +kernel), _, ds, T, rfl, hv.mono s1, by omega, fun b2 H2 hb2 s2 g2 => ?_⟩
  refine ⟨(by show 2 ≤ sizeLine; decide), fun l1 hl1 => ?_⟩
  have s3 := same_new hl1 (.lst [.ref b1, .ref b2])
  have g3 : upd H2 l1 (.lst [.ref b1, .ref b2]) l1 = some (.lst [.ref b1, .ref b2]) := upd_same
  generalize upd H2 l1 (.lst [.ref b1, .ref b2]) = H3 at s3 g3
  have s03 := s1.trans (s2.trans s3)
  refine ⟨_, rfl, dt, _, _, _, rfl, rfl, .inl (.inl (s03 _ _ hdt)), rfl, _, rfl, dt, _, _, _, rfl, rfl, .inl (.inl (s03 _ _ hdt)), rfl, (by show 2 ≤ sizeLine; decide), fun l2 hl2 => ?_⟩
  have s4 := same_new hl2 (.lst [v1, v2])
  have g4 : upd H3 l2 (.lst [v1, v2]) l2 = some (.lst [v1, v2]) := upd_same
  generalize upd H3 l2 (.lst [v1, v2]) = H4 at s4 g4
  have s04 := s03.trans s4
  refine ⟨_, _, rfl, .inr (.inr (.inr (.inr ⟨l1, l2, _, _, rfl, rfl, .inl ⟨s4 _ _ g3, g4⟩, .cons ?_ (.cons ?_ .nil), by simp⟩))), fun H5 s5 => q _ (s04.trans s5)⟩
  · exact alk_ints ⟨b1, rfl, s4 _ _ (s3 _ _ (s2 _ _ g1))⟩ (hI.mono s04) h6
  · refine alk_rows (RowsAt.mono (s3.trans s4) g2) (hR.mono s04) (fun row hrow => ?_) (by omega)
    obtain ⟨i, hi⟩ := List.mem_iff_getElem?.mp hrow
    have := row_len hi
    have := ok.wid
    omega
end
end L2.FK
namespace L2.FK
open PySem PySem.Spec PyProof.Rows L2.FL
section
variable {P : Program} {w : World} {K : PySem.W.Frag} {mg : Str → Option Value} {base : Heap} {C : Addr}
def Sm2 (R D : Nat) (ds : List Int) (T : List (List Pl)) : Prop := ∀ (i : Nat) row d, T[i]? = some row → ds[i]? = some d → row.length ≤ R ∧ -(D : Int) ≤ d ∧ d ≤ (D : Int)
/-! ### _law_any -/
/-- small rows and drifts -/
def spAny : Sp := fun vs H Q _ => ∃ (b sa : Addr) (n : Nat) (st mo : Int), vs = [.ref b, .int n, .int st, .int mo] ∧ BagAt H b sa ∧ 1 ≤ n ∧ n ≤ 6 ∧ 0 ≤ st ∧ st ≤ 1000 ∧ 0 ≤ mo ∧ mo ≤ 20 ∧
  ∀ r H' ds T, Same (del b H) (del b H') → BagAt H' b sa → DAt H' r ds T → Okm ds T → Trd ds T → ds.length = n → Sm2 26 6 ds T → (∀ d ∈ ds, -st ≤ d ∧ d ≤ st) → Q r H'
theorem sc_an : FnScope ["_law_bag_here", "_law_wide", "_law_steps", "_law_more"] ["_law_bag_here", "_law_wide", "_law_steps", "_law_more"] (C8.fnScope sAny) := C8.fnScope_by (by decide +kernel)
theorem ok_any (h : Has K mg "_law_any" sAny ["_law_bag_here", "_law_wide", "_law_steps", "_law_more"]) (cL : C8.Cal P w K mg base 1 "_law_least" spLeast []) (cD : C8.Cal P w K mg base 2 "_law_deal" spDeal []) (cR : C8.Cal P w K mg base 2 "_law_drifts" spDrf []) : C8.Cal P w K mg base 3 "_law_any" spAny [] := by
  refine cal_of h sc_an (fun vs H Q E z => ?_) (fun f cdv A outer s H vs Q E hr z => ?_)
  · obtain ⟨b, sa, n, st, mo, rfl, _⟩ := z; rfl
  obtain ⟨b, sa, n, st, mo, rfl, hB, h1, h6, h0, h9, m0, m9, q⟩ := z
  refine ⟨_, pss_one (ps_ret (C8.pe_c cL hr (by decide) rfl (pa_cons (C8.pe_c cD hr (by decide) rfl (pa_cons (pv 0) (pa_cons (C8.pe_c cR hr (by decide) rfl (pa_cons (pv 0) (pa_cons (pv 1) (pa_cons (pv 2) pa_nil)))) (pa_cons (pv 3) pa_nil)))) pa_nil))), ?_⟩
  refine ⟨_, rfl, _, rfl, _, rfl, _, rfl, b, sa, n, st, rfl, hB, h1, h6, h0, h9, fun v H1 ds s1 b1 hI hl hdb hds hst => ?_⟩
  refine ⟨_, rfl, b, sa, v, ds, mo, rfl, b1, hI, by omega, by omega, hdb, hds, m0, m9, fun r H2 rows s2 b2 hD ok hsz => ?_⟩
  refine ⟨_, ds, rows, rfl, hD, ok.len, ok.hi, fun r' H3 s3 hD' => ?_⟩
  refine q _ _ ds _ (s1.trans (s2.trans (same_dels s3))) (b2.mono s3) hD' ok.trim (trimAll_trd ok.len) hl ?_ hst
  intro i row d hr hd
  have hi : i < rows.length := by
    obtain ⟨z, _⟩ := List.getElem?_eq_some_iff.mp hr
    rw [trimAll_len] at z; exact z
  have gr := List.getElem?_eq_getElem hi
  rw [trimAll_get gr hd] at hr
  cases hr
  have h1 := hsz _ (List.mem_of_getElem? gr)
  have h2 := hdb d (List.mem_of_getElem? hd)
  have h3 := trimLen_le (i : Int) d rows[i] rows[i].length
  rw [trimRow_length]
  omega
end
end L2.FK
namespace L2.FK
open PySem PySem.Spec PyProof.Rows L2.FL
section
variable {P : Program} {w : World} {K : PySem.W.Frag} {mg : Str → Option Value} {base : Heap} {C : Addr}
theorem isPl_is {n : Nat} {p : Pl} (h : isP n p) : isPl (n : Nat) p = true := by
  obtain ⟨h1, h2, h3⟩ := h
  unfold isPl
  rw [decide_eq_true h1, decide_eq_true h2, decide_eq_true h3]; rfl
theorem LMap.ins {H : Hp} {v : V} {ds : List Int} {T : List (List Pl)} (h : LMap C H v ds T) : ∃ p dx fs, v = .ref p ∧ H p = some (.ins C dx fs) ∧ (∀ m : Str, ¬ m = "origins" → ¬ m = "images" → ¬ m = "rows" → ¬ m = "shifts" → fs.lookup m = none) :=
  let ⟨p, dx, a1, v2, a3, a4, im, og, e, h1, _⟩ := h
  ⟨p, dx, _, e, h1, fun m => fl_no _ _ _ _⟩
theorem LMap.rows_len {H : Hp} {v : V} {ds : List Int} {T : List (List Pl)} (h : LMap C H v ds T) : True := trivial
theorem compRows_get {ds es : List Int} {T U : List (List Pl)} {i : Nat} {d e : Int} (h : ds[i]? = some d) (he : es[i]? = some e) : (compRows ds T es U)[i]? = some (trimRow (i : Int) (d + e) (compRow ds T es U i)) := by
  obtain ⟨hi, _⟩ := List.getElem?_eq_some_iff.mp h
  unfold compRows
  rw [List.getElem?_map, List.getElem?_range hi]
  show some (trimRow (i : Int) (ds.getD i 0 + es.getD i 0) (compRow ds T es U i)) = _
  rw [getD_of h, getD_of he]
theorem compRows_len (ds es : List Int) (T U : List (List Pl)) : (compRows ds T es U).length = ds.length := by unfold compRows; rw [List.length_map, List.length_range]
theorem compRow_len {ds es : List Int} {T U : List (List Pl)} {i : Nat} {d : Int} {row row' : List Pl} (h : T[i]? = some row) (h' : U[i]? = some row') (hd : ds[i]? = some d) : (compRow ds T es U i).length = (max (row.length : Int) ((row'.length : Int) - d)).toNat := by
  unfold compRow
  rw [List.length_map, List.length_range, List.getD_eq_getElem?_getD, List.getD_eq_getElem?_getD, h, h', getD_of hd]; rfl
theorem compRow_get {ds es : List Int} {T U : List (List Pl)} {i j : Nat} (h : j < (compRow ds T es U i).length) : (compRow ds T es U i)[j]? = some (gl es U (gl ds T ((i : Int), (j : Int)))) := by
  unfold compRow at h ⊢
  rw [List.length_map, List.length_range] at h
  rw [List.getElem?_map, List.getElem?_range h]; rfl
end
end L2.FK
/-! The composition of two valid maps is a valid map. -/
namespace L2.FK
open PySem PySem.Spec PyProof.Rows L2.FL
section
variable {ds es : List Int} {T U : List (List Pl)}
def cRows (ds : List Int) (T : List (List Pl)) (es : List Int) (U : List (List Pl)) : List (List Pl) := (List.range ds.length).map (compRow ds T es U)
theorem cRows_len : (cRows ds T es U).length = ds.length := by unfold cRows; rw [List.length_map, List.length_range]
theorem cRows_get {i : Nat} (h : i < ds.length) : (cRows ds T es U)[i]? = some (compRow ds T es U i) := by
  unfold cRows
  rw [List.getElem?_map, List.getElem?_range h]; rfl
/-- what is known of a lane -/
theorem lane_facts (oT : Okm ds T) (oU : Okm es U) (hl : ds.length = es.length) {i : Nat} (hi : i < ds.length) :
    ∃ d e row row', ds[i]? = some d ∧ es[i]? = some e ∧ T[i]? = some row ∧ U[i]? = some row' ∧ (compDs ds es)[i]? = some (d + e) ∧ ((compRow ds T es U i).length : Int) = max (row.length : Int) ((row'.length : Int) - d) ∧ 0 ≤ (row.length : Int) + d ∧ 0 ≤ (row'.length : Int) + e := by
  have gd := List.getElem?_eq_getElem hi
  have ge := List.getElem?_eq_getElem (show i < es.length by omega)
  have gT := List.getElem?_eq_getElem (show i < T.length by rw [oT.len]; exact hi)
  have gU := List.getElem?_eq_getElem (show i < U.length by rw [oU.len]; omega)
  refine ⟨_, _, _, _, gd, ge, gT, gU, compDs_get gd ge, ?_, oT.st i _ _ gT gd, oU.st i _ _ gU ge⟩
  rw [compRow_len gT gU gd]
  omega
theorem gl_comp (oT : Okm ds T) (oU : Okm es U) (hl : ds.length = es.length) {p : Pl} (hp : isP ds.length p) : gl (compDs ds es) (cRows ds T es U) p = gl es U (gl ds T p) := by
  obtain ⟨i, j, rfl, hi⟩ := isP_nat hp
  obtain ⟨d, e, row, row', gd, ge, gT, gU, gc, hL, h1, h2⟩ := lane_facts oT oU hl hi
  by_cases c : j < (compRow ds T es U i).length
  · rw [gl_in (cRows_get hi) (compRow_get c)]
  · rw [gl_out (cRows_get hi) (by omega) gc, gl_out gT (by omega) gd]
    obtain ⟨m, hm⟩ : ∃ m : Nat, (j : Int) + d = m := ⟨((j : Int) + d).toNat, by omega⟩
    rw [hm, gl_out gU (by omega) ge, ← hm, Int.add_assoc]
theorem comp_isP (oT : Okm ds T) (oU : Okm es U) (hl : ds.length = es.length) {p : Pl} (hp : isP ds.length p) : isP ds.length (gl es U (gl ds T p)) := by
  have h1 := gl_isP oT hp
  rw [hl] at h1 ⊢
  exact gl_isP oU h1
theorem comp_inj (oT : Okm ds T) (oU : Okm es U) (hl : ds.length = es.length) {p q : Pl} (hp : isP ds.length p) (hq : isP ds.length q) (e : gl es U (gl ds T p) = gl es U (gl ds T q)) : p = q := by
  have h1 := gl_isP oT hp
  have h2 := gl_isP oT hq
  rw [hl] at h1 h2
  exact gl_inj oT hp hq (gl_inj oU h1 h2 e)
theorem inner_c {x y : Pl} (h : inner (cRows ds T es U) x = some y) : ∃ i j : Nat, x = ((i : Int), (j : Int)) ∧ i < ds.length ∧ j < (compRow ds T es U i).length ∧ y = gl es U (gl ds T x) := by
  obtain ⟨i, j, row, rfl, hr, hj⟩ := inner_some h
  have hi : i < ds.length := by
    obtain ⟨z, _⟩ := List.getElem?_eq_some_iff.mp hr
    rw [cRows_len] at z; exact z
  rw [cRows_get hi] at hr
  cases hr
  obtain ⟨hjl, _⟩ := List.getElem?_eq_some_iff.mp hj
  rw [compRow_get hjl] at hj
  exact ⟨i, j, rfl, hi, hjl, (Option.some.inj hj).symm⟩
theorem okm_comp (oT : Okm ds T) (oU : Okm es U) (hl : ds.length = es.length) (wid : (cRows ds T es U).flatten.length ≤ 2000) : Okm (compDs ds es) (cRows ds T es U) := by
  refine okm_of (by rw [cRows_len, compDs_len]) (by rw [compDs_len]; exact oT.lo) (by rw [compDs_len]; exact oT.hi) wid (fun i row d' h hd => ?_) (fun i j row d' h hd hj => ?_) (fun x y h => ?_) (fun x x' y h h' => ?_)
  · have hi : i < ds.length := by
      obtain ⟨z, _⟩ := List.getElem?_eq_some_iff.mp h
      rw [cRows_len] at z; exact z
    obtain ⟨d, e, r1, r2, gd, ge, gT, gU, gc, hL, h1, h2⟩ := lane_facts oT oU hl hi
    rw [cRows_get hi] at h
    cases h
    rw [gc] at hd
    cases hd
    omega
  · have hi : i < ds.length := by
      obtain ⟨z, _⟩ := List.getElem?_eq_some_iff.mp h
      rw [cRows_len] at z; exact z
    obtain ⟨d, e, r1, r2, gd, ge, gT, gU, gc, hL, h1, h2⟩ := lane_facts oT oU hl hi
    rw [cRows_get hi] at h
    cases h
    rw [gc] at hd
    cases hd
    have hy : isP es.length ((i : Int), (j : Int)) := isP_of (by omega)
    obtain ⟨p1, q1⟩ := src_spec oU hy
    rw [← hl] at p1
    obtain ⟨p2, q2⟩ := src_spec oT p1
    have hx : gl es U (gl ds T (srcOf ds T (srcOf es U ((i : Int), (j : Int))))) = ((i : Int), (j : Int)) := by rw [q2, q1]
    have hg := gl_comp oT oU hl p2
    generalize srcOf ds T (srcOf es U ((i : Int), (j : Int))) = x at p2 hx hg
    refine ⟨x, ?_⟩
    obtain ⟨k, m, rfl, hk⟩ := isP_nat p2
    by_cases cc : m < (compRow ds T es U k).length
    · rw [inner_at (cRows_get hk), compRow_get cc, hx]
    · obtain ⟨d', e', r1', r2', gd', ge', gT', gU', gc', hL', h1', h2'⟩ := lane_facts oT oU hl hk
      rw [hx, gl_out (cRows_get hk) (by omega) gc'] at hg
      have ek : (k : Int) = (i : Int) := congrArg Prod.fst hg
      have ej : (m : Int) + (d' + e') = (j : Int) := congrArg Prod.snd hg
      have ek : k = i := by omega
      subst ek
      rw [gd] at gd'
      rw [ge] at ge'
      cases gd'
      cases ge'
      omega
  · obtain ⟨i, j, rfl, hi, hj, ey⟩ := inner_c h
    have hp := isP_of (j := j) hi
    have py := comp_isP oT oU hl hp
    rw [← ey] at py
    obtain ⟨i', j', rfl, hi'⟩ := isP_nat py
    obtain ⟨d, e, r1, r2, gd, ge, gT, gU, gc, hL, h1, h2⟩ := lane_facts oT oU hl hi'
    refine ⟨i', j', _, _, rfl, cRows_get hi', gc, ?_⟩
    refine Int.lt_of_not_ge fun c => ?_
    obtain ⟨m, hm⟩ : ∃ m : Nat, (j' : Int) - (d + e) = m := ⟨((j' : Int) - (d + e)).toNat, by omega⟩
    have hq := isP_of (j := m) hi'
    have hg := gl_comp oT oU hl hq
    rw [gl_out (cRows_get hi') (by omega) gc] at hg
    have eq : gl es U (gl ds T ((i : Int), (j : Int))) = gl es U (gl ds T ((i' : Int), (m : Int))) := by
      rw [← ey, ← hg, ← hm]
      congr 1
      omega
    have := comp_inj oT oU hl hp hq eq
    have e1 : (i : Int) = (i' : Int) := congrArg Prod.fst this
    have e2 : (j : Int) = (m : Int) := congrArg Prod.snd this
    have e1 : i = i' := by omega
    subst e1
    omega
  · obtain ⟨i, j, rfl, hi, hj, ey⟩ := inner_c h
    obtain ⟨i', j', rfl, hi', hj', ey'⟩ := inner_c h'
    exact comp_inj oT oU hl (isP_of hi) (isP_of hi') (by rw [← ey, ← ey'])
theorem compRows_trim (oT : Okm ds T) (oU : Okm es U) (hl : ds.length = es.length) : compRows ds T es U = trimAll (compDs ds es) (cRows ds T es U) := by
  refine List.ext_getElem? fun i => ?_
  by_cases hi : i < ds.length
  · obtain ⟨d, e, r1, r2, gd, ge, gT, gU, gc, _⟩ := lane_facts oT oU hl hi
    rw [compRows_get gd ge, trimAll_get (cRows_get hi) gc]
  · rw [List.getElem?_eq_none (by rw [compRows_len]; omega), List.getElem?_eq_none (by rw [trimAll_len, cRows_len]; omega)]
theorem flat_leM {M : Nat} : ∀ {R : List (List Pl)}, (∀ row ∈ R, row.length ≤ M) → R.flatten.length ≤ R.length * M
  | [], _ => by simp
  | r :: R, h => by
    have h1 := h r List.mem_cons_self
    have h2 := flat_leM (R := R) fun row hr => h row (List.mem_cons_of_mem _ hr)
    rw [List.flatten_cons, List.length_append, List.length_cons, Nat.succ_mul]
    omega
theorem wid_comp {R1 R2 D1 D2 : Nat} (oT : Okm ds T) (oU : Okm es U) (hl : ds.length = es.length) (sT : Sm2 R1 D1 ds T) (sU : Sm2 R2 D2 es U) (h1 : R1 ≤ 333) (h2 : R2 + D1 ≤ 333) : (cRows ds T es U).flatten.length ≤ 2000 := by
  have := flat_leM (M := 333) (R := cRows ds T es U) fun row hr => by
    obtain ⟨i, hi⟩ := List.mem_iff_getElem?.mp hr
    have hin : i < ds.length := by
      obtain ⟨z, _⟩ := List.getElem?_eq_some_iff.mp hi
      rw [cRows_len] at z; exact z
    obtain ⟨d, e, r1, r2, gd, ge, gT, gU, gc, hL, _⟩ := lane_facts oT oU hl hin
    rw [cRows_get hin] at hi
    cases hi
    have := sT i _ _ gT gd
    have := sU i _ _ gU ge
    omega
  rw [cRows_len] at this
  have := oT.hi
  have : ds.length * 333 ≤ 6 * 333 := Nat.mul_le_mul_right _ this
  omega
theorem trim_id' {ds : List Int} {T : List (List Pl)} (o : Okm ds T) (ht : Trd ds T) : trimAll ds T = T :=
  canon (ds := ds) ((trimAll_len ds T).trans o.len) o.len (trimAll_trd o.len) ht fun _ hp => gl_trim o.len hp
/-- all that compose and the law's own composition give -/
theorem comp_all {R1 R2 D1 D2 : Nat} (oT : Okm ds T) (oU : Okm es U) (hl : ds.length = es.length) (sT : Sm2 R1 D1 ds T) (sU : Sm2 R2 D2 es U) (h1 : R1 ≤ 333) (h2 : R2 + D1 ≤ 333) : Okm (compDs ds es) (compRows ds T es U) ∧ trimAll (compDs ds es) (compRows ds T es U) = compRows ds T es U ∧ Trd (compDs ds es) (compRows ds T es U) ∧ Sm2 (max R1 (R2 + D1)) (D1 + D2) (compDs ds es) (compRows ds T es U) := by
  have oc := okm_comp oT oU hl (wid_comp oT oU hl sT sU h1 h2)
  have et := compRows_trim oT oU hl
  have o2 : Okm (compDs ds es) (compRows ds T es U) := by rw [et]; exact oc.trim
  have tr : Trd (compDs ds es) (compRows ds T es U) := by rw [et]; exact trimAll_trd oc.len
  refine ⟨o2, trim_id' o2 tr, tr, fun i row d hr hd => ?_⟩
  have hi : i < ds.length := by
    obtain ⟨z, _⟩ := List.getElem?_eq_some_iff.mp hr
    rw [compRows_len] at z; exact z
  obtain ⟨d1, e1, r1, r2, gd, ge, gT, gU, gc, hL, _⟩ := lane_facts oT oU hl hi
  rw [compRows_get gd ge] at hr
  cases hr
  rw [gc] at hd
  cases hd
  have a1 := sT i _ _ gT gd
  have a2 := sU i _ _ gU ge
  have h3 := trimLen_le (i : Int) (d1 + e1) (compRow ds T es U i) (compRow ds T es U i).length
  rw [trimRow_length]
  omega
theorem Sm2.mono {A B A' B' : Nat} (h : A ≤ A') (h' : B ≤ B') (s : Sm2 A B ds T) : Sm2 A' B' ds T := fun i row d h1 h2 => by
  have := s i row d h1 h2
  omega
theorem Sm2.inv {R D : Nat} (o : Okm ds T) (s : Sm2 R D ds T) : Sm2 (R + D) D (invDs ds) (invT ds T) := fun i row d h1 h2 => by
  have hi : i < T.length := by
    obtain ⟨z, _⟩ := List.getElem?_eq_some_iff.mp h1
    rw [invT_len o, ← o.len] at z; exact z
  have gT := List.getElem?_eq_getElem hi
  have hid : i < ds.length := by rw [← o.len]; exact hi
  have gd := List.getElem?_eq_getElem hid
  rw [invDs_get gd] at h2
  cases h2
  unfold invT at h1
  rw [trimAll_get (invRows_get hi) (invDs_get gd)] at h1
  cases h1
  have := s i _ _ gT gd
  have h3 := trimLen_le (i : Int) (-ds[i]) (invRow ds T i) (invRow ds T i).length
  rw [trimRow_length]
  rw [invRow_len gT gd] at h3 ⊢
  omega
end
end L2.FK
/-! Maps as values: composition, inverse, power, conjugate; what they do to places; when two are one. -/
namespace L2.FK
open PySem PySem.Spec PyProof.Rows L2.FL
/-- a map: its drifts and its goals -/
structure Mv where
  ds : List Int
  T : List (List Pl)
namespace Mv
noncomputable def go (a : Mv) (p : Pl) : Pl := gl a.ds a.T p
noncomputable def bk (a : Mv) (p : Pl) : Pl := srcOf a.ds a.T p
def cmp (a b : Mv) : Mv := ⟨compDs a.ds b.ds, compRows a.ds a.T b.ds b.T⟩
noncomputable def inv (a : Mv) : Mv := ⟨invDs a.ds, invT a.ds a.T⟩
noncomputable def cnj (a b : Mv) : Mv := (b.inv.cmp a).cmp b
def one (n : Nat) : Mv := ⟨List.replicate n 0, List.replicate n []⟩
end Mv
/-- a map of n lanes without goals that the drift gives; rows up to R, drifts up to D -/
structure Kn (R D n : Nat) (a : Mv) : Prop where
  ok : Okm a.ds a.T
  tr : Trd a.ds a.T
  len : a.ds.length = n
  sm : Sm2 R D a.ds a.T
variable {R D R1 D1 R2 D2 n : Nat} {a b c : Mv} {p q : Pl}
theorem mv_ext (h1 : a.ds = b.ds) (h2 : a.T = b.T) : a = b := by
  cases a; cases b; cases h1; cases h2; rfl
theorem Kn.mono {R' D' : Nat} (k : Kn R D n a) (h : R ≤ R') (h' : D ≤ D') : Kn R' D' n a := ⟨k.ok, k.tr, k.len, k.sm.mono h h'⟩
theorem Kn.lenT (k : Kn R D n a) : a.T.length = n := k.ok.len.trans k.len
theorem Kn.lo (k : Kn R D n a) : 1 ≤ n := k.len ▸ k.ok.lo
theorem Kn.hi (k : Kn R D n a) : n ≤ 6 := k.len ▸ k.ok.hi
theorem sm2_rows' (k : Kn R D n a) : ∀ (i : Nat) row, a.T[i]? = some row → row.length ≤ R := fun i row hr => by
  have hi : i < a.ds.length := by have := (List.getElem?_eq_some_iff.mp hr).1; have := k.ok.len; omega
  exact (k.sm i row _ hr (List.getElem?_eq_getElem hi)).1
theorem Kn.trim (k : Kn R D n a) : trimAll a.ds a.T = a.T := trim_id' k.ok k.tr
theorem Kn.goP (k : Kn R D n a) (h : isP n p) : isP n (a.go p) := by have := k.len; subst this; exact gl_isP k.ok h
theorem Kn.bkP (k : Kn R D n a) (h : isP n p) : isP n (a.bk p) := by have := k.len; subst this; exact (src_spec k.ok h).1
theorem Kn.go_bk (k : Kn R D n a) (h : isP n p) : a.go (a.bk p) = p := by have := k.len; subst this; exact (src_spec k.ok h).2
theorem Kn.bk_go (k : Kn R D n a) (h : isP n p) : a.bk (a.go p) = p := by have := k.len; subst this; exact src_gl k.ok h
theorem Kn.inj (k : Kn R D n a) (hp : isP n p) (hq : isP n q) (e : a.go p = a.go q) : p = q := by have := k.len; subst this; exact gl_inj k.ok hp hq e
/-! ### one and the same -/
theorem ds_of_go (o : Okm a.ds a.T) (o' : Okm b.ds b.T) (hl : a.ds.length = b.ds.length) (h : ∀ p, isP a.ds.length p → a.go p = b.go p) : a.ds = b.ds := by
  refine List.ext_getElem? fun i => ?_
  by_cases hi : i < a.ds.length
  · obtain ⟨r, d, h1, h2⟩ := o.both hi
    obtain ⟨s, e, h3, h4⟩ := o'.both (i := i) (by omega)
    have z := h ((i : Int), ((r.length + s.length : Nat) : Int)) (isP_of hi)
    unfold Mv.go at z
    rw [gl_out h1 (by omega) h2, gl_out h3 (by omega) h4] at z
    injection z with _ z
    rw [h2, h4]
    congr 1
    omega
  · rw [List.getElem?_eq_none (by omega), List.getElem?_eq_none (by omega)]
theorem mv_eq {R' D' : Nat} (k : Kn R D n a) (k' : Kn R' D' n b) (h : ∀ p, isP n p → a.go p = b.go p) : a = b := by
  have e := ds_of_go k.ok k'.ok (k.len.trans k'.len.symm) (by rw [k.len]; exact h)
  obtain ⟨ds, T⟩ := a
  obtain ⟨es, U⟩ := b
  cases e
  congr 1
  exact canon (ds := ds) k.ok.len k'.ok.len k.tr k'.tr fun p hp => h p (by rw [← k.len]; exact hp)
theorem mv_dec {R' D' : Nat} (k : Kn R D n a) (k' : Kn R' D' n b) (h : ∀ p, isP n p → a.go p = b.go p) : decide (a.ds = b.ds ∧ a.T = b.T) = true := by
  rw [mv_eq k k' h]; exact decide_eq_true ⟨rfl, rfl⟩
/-! ### composition -/
theorem Kn.cmp (k : Kn R1 D1 n a) (l : Kn R2 D2 n b) (h1 : R1 ≤ 333 := by omega) (h2 : R2 + D1 ≤ 333 := by omega) : Kn (max R1 (R2 + D1)) (D1 + D2) n (a.cmp b) := by
  obtain ⟨x, _, z, w⟩ := comp_all k.ok l.ok (k.len.trans l.len.symm) k.sm l.sm h1 h2
  exact ⟨x, z, (compDs_len _ _).trans k.len, w⟩
theorem go_cmp (k : Kn R1 D1 n a) (l : Kn R2 D2 n b) (hp : isP n p) : (a.cmp b).go p = b.go (a.go p) := by
  have hl := k.len.trans l.len.symm
  have hp' : isP a.ds.length p := by rw [k.len]; exact hp
  unfold Mv.go Mv.cmp
  show gl _ (compRows _ _ _ _) p = _
  rw [compRows_trim k.ok l.ok hl, gl_trim (by rw [cRows_len, compDs_len]) (by rw [compDs_len]; exact hp'), gl_comp k.ok l.ok hl hp']
/-! ### inverse -/
theorem Kn.inv (k : Kn R D n a) : Kn (R + D) D n a.inv := ⟨k.ok.invT, trimAll_trd k.ok.inv.len, (invDs_len _).trans k.len, k.sm.inv k.ok⟩
theorem go_inv (k : Kn R D n a) (hp : isP n p) : a.inv.go p = a.bk p := gl_invT k.ok (by rw [k.len]; exact hp)
theorem bk_inv (k : Kn R D n a) (hp : isP n p) : a.inv.bk p = a.go p := by
  have h := (k.inv.bkP hp)
  refine k.inv.inj h (k.goP hp) ?_
  rw [k.inv.go_bk hp, go_inv k (k.goP hp), k.bk_go hp]
theorem inv_inv (k : Kn R D n a) : a.inv.inv = a := mv_eq k.inv.inv k fun p hp => by rw [go_inv k.inv hp, bk_inv k hp]
/-! ### conjugate -/
theorem Kn.cnj (k : Kn R1 D1 n a) (l : Kn R2 D2 n b) (h1 : R2 + D2 ≤ 333 := by omega) (h2 : R1 + D2 ≤ 333 := by omega) (h3 : R2 + (D2 + D1) ≤ 333 := by omega) : Kn (max (max (R2 + D2) (R1 + D2)) (R2 + (D2 + D1))) (D2 + D1 + D2) n (a.cnj b) :=
  (l.inv.cmp k h1 h2).cmp l (by omega) h3
theorem go_cnj (k : Kn R1 D1 n a) (l : Kn R2 D2 n b) (h1 : R2 + D2 ≤ 333) (h2 : R1 + D2 ≤ 333) (hp : isP n p) : (a.cnj b).go p = b.go (a.go (b.bk p)) := by
  unfold Mv.cnj
  rw [go_cmp (l.inv.cmp k h1 h2) l hp, go_cmp l.inv k hp, go_inv l hp]
/-! ### identity -/
theorem kn_one (h1 : 1 ≤ n) (h6 : n ≤ 6) : Kn 0 0 n (Mv.one n) := by
  refine ⟨okm_still h1 h6, ?_, List.length_replicate .., ?_⟩
  · have := trimAll_trd (ds := List.replicate n (0 : Int)) (T := List.replicate n ([] : List Pl)) (by rw [List.length_replicate, List.length_replicate])
    rw [trim_still] at this
    exact this
  · intro i row d hr hd
    rw [List.eq_of_mem_replicate (List.mem_of_getElem? hr), List.eq_of_mem_replicate (List.mem_of_getElem? hd)]
    exact ⟨Nat.zero_le _, by omega, by omega⟩
theorem go_one (hp : isP n p) : (Mv.one n).go p = p := by
  obtain ⟨i, j, rfl, hi⟩ := isP_nat hp
  show gl _ _ _ = ((i : Int), (j : Int))
  rw [show (Mv.one n).T = List.replicate n [] from rfl, show (Mv.one n).ds = List.replicate n 0 from rfl,
    gl_out (row := []) (d := 0) (by rw [List.getElem?_replicate, if_pos hi]) (by simp) (by rw [List.getElem?_replicate, if_pos hi]), Int.add_zero]
/-! ### the drifts of a bijection add up to nothing -/
theorem endsOk (o : Okm a.ds a.T) : a.T.flatten.Perm (plsTo (endsN a.ds (a.T.map List.length)) a.ds.length) := by
  have hz : (a.T.map List.length).length = a.ds.length := by rw [List.length_map]; exact o.len
  refine (List.perm_ext_iff_of_nodup o.nd (plsTo_nodup _ _)).mpr fun p => ?_
  rw [o.mem p, mem_plsTo]
  constructor
  · rintro ⟨i, row, d, e, h1, h2, h3, h4⟩
    have hi := (List.getElem?_eq_some_iff.mp h2).1
    refine ⟨i, hi, e, h3, ?_⟩
    rw [List.getD_eq_getElem?_getD, endsN_get h2 (z := row.length) (by rw [List.getElem?_map, h1]; rfl)]
    show p.2 < ((((row.length : Nat) : Int) + d).toNat : Int)
    omega
  · rintro ⟨i, hi, e, h3, h4⟩
    obtain ⟨row, d, h1, h2⟩ := o.both hi
    refine ⟨i, row, d, e, h1, h2, h3, ?_⟩
    rw [List.getD_eq_getElem?_getD, endsN_get h2 (z := row.length) (by rw [List.getElem?_map, h1]; rfl)] at h4
    have h4 : p.2 < ((((row.length : Nat) : Int) + d).toNat : Int) := h4
    have := o.st i row d h1 h2
    omega
theorem okm_sum (o : Okm a.ds a.T) : a.ds.sum = 0 := by
  have hz : (a.T.map List.length).length = a.ds.length := by rw [List.length_map]; exact o.len
  have h1 := (endsOk o).length_eq
  rw [plsTo_len _ _ (by rw [endsN_len hz]; exact Nat.le_refl _), List.take_of_length_le (by rw [endsN_len hz]; exact Nat.le_refl _), List.length_flatten] at h1
  have h2 := endsN_sum (ds := a.ds) (zs := a.T.map List.length) hz fun i d z hd hzz => by
    rw [List.getElem?_map] at hzz
    obtain ⟨row, hr, rfl⟩ := Option.map_eq_some_iff.mp hzz
    exact o.st i row d hr hd
  omega
end L2.FK
/-! Rules of our own for exceptions: except with a tuple of three classes and a name; the fields of a handed-on exception. -/
namespace FlT
open PySem PySem.Spec PyProof.Rows L2

/-- the ends of an except suite whose name lies in slot i: the name is gone behind it -/
def offAt (i : Nat) (D : Ends) : Ends := { nx := fun st hp => D.nx (st.set i none) hp, rt := D.rt, bk := fun st hp => D.bk (st.set i none) hp, ct := fun st hp => D.ct (st.set i none) hp }
/-- what except (c1, c2, ..) as the name of slot i wishes of an exception of the body -/
def wTup (K : PySem.W.Frag) (cs : List Value) (m i : Nat) (ts : Addr → Value → Option Addr → TS) (Wo : WX) (D : Ends) : WX := fun cl dd st hp =>
  ∃ hit, PySem.W.exmAny K cl cs = some hit ∧ (hit = true → st.length = m → ∀ a, hp a = none → ts a cl dd (offAt i D) (st.set i (some (.ref a))) hp) ∧ (hit = false → Wo cl dd st hp)

theorem flying_push {B h : Heap} {l : List Env} {e : Addr} {Z : Obj → Prop} (F : HandSPX.FlyingZ B l e Z h) (o : Obj) : HandSPX.FlyingZ B l e Z (h.push o) := by
  obtain ⟨stay, none_, frames, oe, vs, T, oT, ws, g1, z, g2, g3, g4, g5, g6, g7, g8⟩ := F
  exact ⟨fun b u q => Heap.get?_push_of_some _ (stay b u q), none_, frames.of_keeps fun b u q _ => ⟨u, Heap.get?_push_of_some _ q, rfl⟩,
    oe, vs, T, oT, ws, Heap.get?_push_of_some _ g1, z, g2, g3, g4, g5, Heap.get?_push_of_some _ g6, g7, g8⟩
theorem slots_push (h : Heap) (o : Obj) : h.UpToSlots (h.push o) := fun b u q _ => ⟨u.slots, Heap.get?_push_of_some _ q⟩

section
variable {X : Cx} {x1 x2 x3 n : Str} {c1 c2 c3 : Value} {i kk : Nat} {body rest : List Stmt} {b₀ : Stmt} {p1 p2 p3 tp pos hpos : Pos} {tb : WX → TS} {ts : Addr → Value → Option Addr → TS} {Wo : WX}
/-- a name of a class, read while the exception at a is handled -/
theorem name_hot {x : Str} {c : Value} {p : Pos} {a : Addr} {pins : List (Addr × Obj)} {st : L2.St} {hp : Hp} {s : Shared} {pn : List (Addr × Obj)} {Q : Value → Shared → Prop} {E : Value → Shared → Prop} (hn : Names X x c)
    (S : Inv (X.suite a pn) pins st hp s) (q : Q c s) : wpAny (model X.prog X.w) (X.A.mark (some (.ref a))) (eval (.Name x p) X.env) Q E s := by
  obtain ⟨g, db, m | ⟨m, v, nn⟩⟩ := hn
  · exact ld_glob (X := X.suite a pn) S g m q db
  · exact ld_blt (X := X.suite a pn) S g m v q nn db

theorem ps_try_tup (hst : X.stack = X.env :: X.outer) (hfr : X.env.frame = some X.env.locals) (nd : X.N.Nodup) (hi : X.N[i]? = some n) (loc : X.env.kindOf n = some .local)
    (n1 : Names X x1 c1) (n2 : Names X x2 c2) (n3 : Names X x3 c3) (tk : L2N.Takes X Wo)
    (hb : ∀ (W : WX) (pn : List (Addr × Obj)) (xe : Value → Shared → Prop), L2N.Takes (X.tr pn xe) W → PassesOwn (model X.prog X.w) X.A X.env xe → PSs (X.tr pn xe) body (tb W))
    (hsu : ∀ (a : Addr) (oe : Obj) (cl : Value) (dd : Option Addr) (pn : List (Addr × Obj)), L2N.Zn cl dd oe → (∃ vs, oe.data = .fields vs) → PSs (X.suite a ((a, oe) :: pn)) (b₀ :: rest) (ts a cl dd))
    (s1 : starEach [.Name x1 p1, .Name x2 p2, .Name x3 p3] X.env = (false, eval (.Name x1 p1) X.env) :: starEach [.Name x2 p2, .Name x3 p3] X.env := by rfl)
    (s2 : starEach [.Name x2 p2, .Name x3 p3] X.env = (false, eval (.Name x2 p2) X.env) :: starEach [.Name x3 p3] X.env := by rfl)
    (s3 : starEach [.Name x3 p3] X.env = (false, eval (.Name x3 p3) X.env) :: starEach [] X.env := by rfl) :
    PS X (.Try body [.ExceptHandler (some (.Tuple [.Name x1 p1, .Name x2 p2, .Name x3 p3] kk tp)) (some n) (b₀ :: rest) hpos] [] [] pos) (fun D st hp => tb (wTup X.K [c1, c2, c3] X.N.length i ts Wo D) D st hp) := by
  refine ⟨fun pins s st hp D I wish => ?_⟩
  have ok := I.ok
  have frames : X.A.frames = some (X.env :: X.outer) := ok.frames.trans (congrArg some hst)
  refine wpAny_Try_except ?_
  have body_ := hb (wTup X.K [c1, c2, c3] X.N.length i ts Wo D) (X.pn ++ pins) (fun e t1 => wpAny (model X.prog X.w) X.A (noteFrame e X.env) (fun _ t2 => wpAny (model X.prog X.w) X.A (setFlight e none) (fun _ t3 =>
    wpAny (model X.prog X.w) X.A (handleBy e X.env [.ExceptHandler (some (.Tuple [.Name x1 p1, .Name x2 p2, .Name x3 p3] kk tp)) (some n) (b₀ :: rest) hpos]) (SP X pins D) X.xe t3) X.xe t2) X.xe t1)
  refine wpAny_mono ((body_ (fun u s' xx => ?_) PassesOwn.looking).run [] s st hp D (I.toTry _) wish) (fun f t hsp => ?_) (fun e t q => q)
  · obtain ⟨a, B, sI, pins', st', hp', cl, dd, rfl, J', ground, up, sky, na, os, bare, hit, test, yes, no⟩ := xx
    have J : Inv X pins st' hp' sI := J'.ofTry ok
    have sky2 : L2.Sky B (X.env :: X.outer) a (L2N.Zn cl dd) X.env.locals s'.heap := hst ▸ sky
    show wpAny (model X.prog X.w) X.A (noteFrame (.ref a) X.env) _ _ _
    refine L2N.Sky.land L2N.Zn.steady frames hfr sky2 fun g fl upg => ?_
    have Jg : Inv X pins st' hp' { s' with heap := g } := J.landed ground fl.1 (up.trans upg) os bare
    obtain ⟨oe, vs, ge, ze, de⟩ := fl.there
    have notF : a ∉ frs (X.env :: X.outer) := fun hm => by
      obtain ⟨_, o', e', nf⟩ := fl.2.2.1.mem hm
      exact nf vs ((Option.some.inj (ge.symm.trans e')) ▸ de)
    have nL : a ≠ X.env.locals := fun z => notF (List.mem_filterMap.mpr ⟨X.env, List.mem_cons_self, hfr.trans (congrArg some z.symm)⟩)
    have nF : a ∉ X.fs := fun hm => by
      obtain ⟨e, q1, q2⟩ := List.mem_filterMap.mp hm
      exact notF (List.mem_filterMap.mpr ⟨e, List.mem_cons_of_mem _ q1, q2⟩)
    have Sg := Jg.suite ge de na nL nF
    refine wpAny_handleBy_cons (codeAny_handlers_test ?_) (by intro q; cases q)
    refine Tuple_ (spliced_more (name_hot n1 Sg (spliced_more (name_hot n2 Sg (spliced_more (name_hot n3 Sg (spliced_none ?_)) s3)) s2)) s1)
    refine wpAny_newObj_type ?_
    have fl2 := flying_push fl { cls := .type "tuple", dict := none, data := .seq [c1, c2, c3].toArray }
    have up2 : g.UpToSlots (g.push { cls := .type "tuple", dict := none, data := .seq [c1, c2, c3].toArray }) := slots_push _ _
    have J2 : Inv X pins st' hp' { s' with heap := g.push { cls := .type "tuple", dict := none, data := .seq [c1, c2, c3].toArray } } := J.landed ground fl2.1 ((up.trans upg).trans up2) os bare
    have ty : PySem.W.Looks (model X.prog X.w) (g.push { cls := .type "tuple", dict := none, data := .seq [c1, c2, c3].toArray }) (typeOf (.ref a)) cl := fun A Q E s k q =>
      wpAny_typeOf_ref (k _ _ (Heap.get?_push_of_some _ ge)) (by rw [ze.1]; exact q)
    have LM := PySem.W.exm_tup3 (M := model X.prog X.w) J2.kIn ty (Heap.get?_push_size g rfl) test
    refine LM.here ?_
    cases hit with
    | true =>
      refine codeAny_handlers_suite_as ?_
      refine HandSPX.lands_againZ fl2 fun h4 fl4 up4 => ?_
      have J4 : Inv X pins st' hp' { s' with heap := h4 } := J.landed ground fl4.1 (((up.trans upg).trans up2).trans up4) os bare
      obtain ⟨o4, v4, g4, z4, d4⟩ := fl4.there
      refine store_ok (X := X.suite a ((a, o4) :: (X.pn ++ pins))) (v := .ref a) (J4.suite g4 d4 na nL nF) nd hi (.inl loc) rfl (fun t5 S5 => ?_) (.inr loc)
      refine wpAny_mono ((hsu a o4 cl dd (X.pn ++ pins) z4 ⟨_, d4⟩).run [] t5 _ hp' _ S5 (yes rfl J.len a na)) (fun f t6 q => ?_) (fun _ _ z => z.elim)
      have off : ∀ {st6 : L2.St} {hp6 : Hp} {Q : Shared → Prop}, Inv (X.suite a ((a, o4) :: (X.pn ++ pins))) [] st6 hp6 t6 → (∀ t7, Inv X pins (st6.set i none) hp6 t7 → Q t7) →
          wpAny (model X.prog X.w) X.A (do bindName X.env n .none; unbindBehindTheSuite X.env n hpos) (fun _ t7 => Q t7) X.xe t6 := fun {st6 hp6 Q} S6 k => gone_ok (S6.unsuite ok) nd hi loc k
      match f, q with
      | .next, ⟨_, _, S6, r⟩ => exact off S6 fun t7 J7 => ⟨_, _, J7, r⟩
      | .brk, ⟨_, _, S6, r⟩ => exact off S6 fun t7 J7 => ⟨_, _, J7, r⟩
      | .cont, ⟨_, _, S6, r⟩ => exact off S6 fun t7 J7 => ⟨_, _, J7, r⟩
      | .ret u, ⟨_, _, _, S6, ru, r⟩ => exact off S6 fun t7 J7 => ⟨_, _, _, J7, ru, r⟩
    | false =>
      show wpAny _ X.A (handleBy (.ref a) X.env []) _ _ _
      refine wpAny_handleBy_nil ?_
      obtain ⟨_, _, _, oe', vs', T, oT, ws, k1, _, k2, k3, _⟩ := id fl2
      unfold PySem.passOn
      refine wpAny_bind (wpAny_field k1 k2 k3 ?_)
      rw [if_neg (show ¬ ((Value.ref T == Value.none) = true) from by simp)]
      have last : wpAny (model X.prog X.w) X.A (setFlight (.ref a) X.env.frame) (fun _ t4 => wpAny (model X.prog X.w) X.A (throw (.ref a) : Sem Flow) (SP X pins D) X.xe t4) X.xe { s' with heap := g.push { cls := .type "tuple", dict := none, data := .seq [c1, c2, c3].toArray } } := by
        rw [hfr]
        exact HandSPX.setFlight_upZ fl2 fun h4 held up4 => wpAny_throw (tk _ _ ⟨a, B, sI, pins, st', hp', cl, dd, rfl, J, ground, ((up.trans upg).trans up2).trans up4, .inr (.inr (hst ▸ held)), na, os, bare, no rfl⟩)
      first
        | exact wpAny_bind (wpAny_pure (wpAny_bind last))
        | exact wpAny_bind last
  · match f, hsp with
    | .next, ⟨st', hp', J', q⟩ => exact wpAny_execs_nil ⟨st', hp', J'.ofTry ok, q⟩
    | .brk, ⟨st', hp', J', q⟩ => exact ⟨st', hp', J'.ofTry ok, q⟩
    | .cont, ⟨st', hp', J', q⟩ => exact ⟨st', hp', J'.ofTry ok, q⟩
    | .ret u, ⟨v, st', hp', J', r, q⟩ => exact ⟨v, st', hp', J'.ofTry ok, r, q⟩
end
end FlT
/-! A def called within an except suite and handed the caught exception itself: its promise may speak of the exception's object. -/
namespace FlT
open PySem PySem.Spec PyProof.Rows L2 L2H

/-- as FnH, the promise knows the handled exception's object -/
structure FnP (P : Program) (w : World) (K : PySem.W.Frag) (mg : Str → Option Value) (base : Heap) (CX : CXT) (k : Nat) (f : Addr) (fd : FuncData) (ps : List Str) (sp : Addr × Obj → Sp) : Prop where
  len : ∀ p vs H Q E, sp p vs H Q E → vs.length = ps.length
  run : ∀ (p : Addr × Obj) (A : Around) (outer : List Env) (s : Shared) (H : Hp) (args : Args) (us : List Value) (vs : List V) (Q : VK) (E : XK), RoomH k A → Hot1 A p → PinOk outer H s p → Env0 P w K mg base A outer s H →
    BindsTo s fd args (ps.zip us) → Vals vs us → sp p vs H Q E → codeAny (model P w) A (.call (.ref f) args) (CR CX outer P w H s Q E) s

theorem fn_ofP {CX : CXT} {P : Program} {w : World} {K : PySem.W.Frag} {mg : Str → Option Value} {base : Heap} {k : Nat} {f : Addr} {name qual : Str} {params : Arguments} {body : List Stmt} {scope : Scope} {dV kV doc pm cdv ct oc : Value} {an od : Option Addr}
    {osl : Array (Option Value)} {N ps : List Str} {sp : Addr × Obj → Sp} (lk : K.lookup f = some ⟨oc, od, .func (PySem.W.fnOf name qual params body scope dV kV doc pm an cdv ct), osl⟩) (code : PySem.W.codeIn K cdv qual = true) (S : FnScope N ps scope)
    (len : ∀ p vs H Q E, sp p vs H Q E → vs.length = ps.length)
    (hbody : ∀ (p : Addr × Obj) (A : Around) (outer : List Env) (s : Shared) (H : Hp) (vs : List V) (Q : VK) (E : XK), Hot1 A p → RoomH k (A.deeper (envOfC qual scope s.heap.objs.size f cdv)) → sp p vs H Q E →
      ∃ t, PSs (cxH CX P w K mg base N qual scope f cdv A outer s H E p) body t ∧ t { nx := fun _ H' => Q .non H', rt := Q } (L2.start N vs) H) :
    FnP P w K mg base CX (k + 1) f (PySem.W.fnOf name qual params body scope dV kV doc pm an cdv ct) ps sp where
  len := len
  run := fun p A outer s H args us vs Q E room hot pin e0 hb r wish => by
    have K1 : K.In s.heap := e0.mod.kin.keeps fun b o e => (e0.bs b o e).1
    have lim : s.heap.NoLimit := e0.mod.nolimit.keeps fun b o e => (e0.bs b o e).1
    have kinds : ∀ y ∈ ps.zip us, scope.names.lookup y.1 = some .local ∨ (scope.names.lookup y.1 = some .cell ∧ ((cellsFrom (s.heap.objs.size + 1) scope.names []).lookup y.1).isSome = true) := fun y hy =>
      (S.par y.1 (List.of_mem_zip (a := y.1) (b := y.2) hy).1).imp id fun q => ⟨q, PySem.W.cellsFrom_some _ _ _ (.inl q)⟩
    refine codeAny_call_function room.depth (K1 _ _ lk) rfl S.co S.gen rfl (PySem.W.codeRec_of K1 code) (hb _ _ _ _ (wpAny_newFunctionEnv_cells S.kind kinds fun env he t1 x => ?_))
    subst he
    obtain ⟨t, ht, hq⟩ := hbody p A outer s H vs Q E hot (room.deeper _) wish
    have I := inv_startH (CX := CX) (E := E) (w := w) S pin e0 (len p vs H Q E wish) r x
    refine ⟨lim.keeps x.toInCall.keep, codeAny_func (wpAny_mono (ht.run [] t1 (L2.start N vs) H _ I hq) (fun fl t2 q => ?_) fun e t2 q => q)⟩
    match fl, q with
    | .ret u, ⟨v, _, H', J, rv, q⟩ => exact ⟨v, H', J.os, J.bare, J.base, J.hok, rv, q⟩
    | .next, ⟨_, H', J, q⟩ => exact ⟨.non, H', J.os, J.bare, J.base, J.hok, rfl, q⟩
    | .brk, ⟨_, _, _, q⟩ => exact q.elim
    | .cont, ⟨_, _, _, q⟩ => exact q.elim

section
variable {X : Cx} {CX : CXT} {k : Nat} {f : Addr} {fd : FuncData} {ps : List Str} {sp : Addr × Obj → Sp} {E : L2.St → XK} {x n : Str} {q pos : Pos} {e : Expr} {es : List Expr} {t : TA} {p : Addr × Obj}
theorem pe_callP (F : FnP X.prog X.w X.K X.mg X.base CX k f fd ps sp) (room : RoomH k X.A) (hot : Hot1 X.A p) (mem : p ∈ X.pn) (hg : Gl X x) (hm : X.mg x = some (.ref f)) (hk : PySem.W.keepIn X.K (.ref f) = true) (hb : Binds X.K fd ps []) (hx : ∀ σ, PassesAt CX X σ (E σ))
    (ha : PA X (e :: es) t) (hdb : (x == ("__debug__" : Str)) = false := by decide) (he : starEach (e :: es) X.env = (false, eval e X.env) :: starEach es X.env := by rfl) (hpl : (backTo pos (starEach es X.env)).any (·.1) = false := by rfl) :
    PE X (.Call (.Name x q) (e :: es) [] pos) (tCallS (sp p) E t) := by
  refine ⟨fun pins s σ H Q I h => wpAny_Call_Name_kw (ld_glob I hg hm ?_ hdb)⟩
  refine PySem.W.callWith_K (h₀ := X.base) I.ok.mod.kin hk (thn (ha.run pos pins s σ H _ I h) fun us t1 ⟨vs, H1, I1, r, wish⟩ => ⟨I1.kIn, ?_⟩) he hpl
  have b := hb t1 us I1.kIn (by rw [List.append_nil, ← r.length]; exact F.len p _ _ _ _ wish)
  rw [List.append_nil] at b
  obtain ⟨g1, g2, g3, g4, g5⟩ := I1.pin p (List.mem_append_left _ mem)
  refine wpAny_call (codeAny_mono (F.run p X.A X.stack t1 H1 ⟨us, []⟩ us vs Q (E σ) room hot ⟨g1, g2, fun z => (List.mem_cons.mp (I1.stkSub p.1 z)).elim g3 g4, g5⟩ I1.env0 b r wish) fun r t2 q2 => ?_)
  match r, q2 with
  | .error e, q2 => exact hx σ pins H1 t1 e t2 I1 q2
  | .ok (.ret u), q2 => exact I1.after q2
  | .ok .next, q2 => exact q2.elim
  | .ok .brk, q2 => exact q2.elim
  | .ok .cont, q2 => exact q2.elim

/-- a field of the pinned exception, its object told by p -/
def tXp (K : PySem.W.Frag) (p : Addr × Obj) (n : Str) (te : TE) : TE := fun σ H Q => te σ H fun x H1 => x = .ref p.1 ∧ ∃ (C dd : Addr) (fs : List (Str × V)) (v : V), p.2.cls = .ref C ∧ p.2.dict = some dd ∧ XfC K C ∧ PySem.W.findIn K (.ref C) n = some none ∧ H1 dd = some (.xd fs) ∧ fs.lookup n = some v ∧ Q v H1
theorem pe_xp {te : TE} (mem : p ∈ X.pn) (data : ∃ vs, p.2.data = .fields vs) (he : PE X e te) (hb : attributeBase e n X.env (eval e X.env) = eval e X.env := by rfl) : PE X (.Attribute e n pos) (tXp X.K p n te) := by
  refine ⟨fun pins s σ H Q I h => attr_of hb (thn (he.run pins s σ H _ I h) fun u t1 ⟨x, H1, I1, rx, ex, C, dd, fs, v, ec, ed, T, no, ea, l, q⟩ => ?_)⟩
  subst ex
  obtain rfl : u = Value.ref p.1 := rx
  obtain ⟨vs, hd⟩ := data
  have hx : ObjOk X.prog X.w H1 t1.heap dd (.xd fs) := I1.hok dd _ ea
  obtain ⟨mA, hns, hr⟩ := hx
  obtain ⟨od, ho, hl⟩ := lookIn_ns hns
  obtain ⟨u, hu, ru⟩ := RelO.some_of (v := v) (o := mA n) (l ▸ hr n)
  have J : PySem.W.InstAt t1.heap p.1 p.2 C (some od) := ⟨(I1.pin p (List.mem_append_left _ mem)).1, ec, by unfold PySem.W.notCls; rw [hd] <;> rfl, by rw [ed]; exact ho⟩
  exact HandSPX.exc_get I1.kIn J T.ga T.gg T.exC (PySem.W.findObj_own T.hdC no rfl (by rw [hl, hu])) (handed_of ru) ⟨v, H1, I1.tok _, ru, q⟩
end
end FlT
/-! Own exceptions with a walked __init__ (any number of arguments), their context None; C.f(..) where f is a def of the class C. -/
namespace FlT
open PySem PySem.Spec PyProof.Rows L2

section
variable {X : Cx} {CX : CXT} {x m : Str} {C f : Addr} {mc : Value} {k : Nat} {fd : FuncData} {ps : List Str} {sp : Sp} {E : XK} {e : Expr} {es : List Expr} {t : TA} {np apos pos : Pos} {pl : Sem Bool}
/-- C.m(e, ..) with m a def of C: called as it is, nothing is put ahead -/
theorem pe_clsfn (hg : Gl X x) (hm : X.mg x = some (.ref C)) (r : ClX.CRead X.K C mc) (at_ : PySem.W.findCls X.K (.ref C) mc m = some (.val (.ref f))) (F : FnOk X.prog X.w X.K X.mg X.base CX k f fd ps sp) (room : Room k X.A) (kp : PySem.W.keepIn X.K (.ref f) = true)
    (hb : Binds X.K fd ps []) (hx : Passes CX X E) (ha : PA X (e :: es) t) (hdb : (x == ("__debug__" : Str)) = false := by decide)
    (he : starEach (e :: es) X.env = (false, eval e X.env) :: starEach es X.env := by rfl) (hpl : (backTo pos (starEach es X.env)).any (·.1) = false := by rfl)
    (ht : eval (.Call (.Attribute (.Name x np) m apos) (e :: es) [] pos) X.env = (do
      let ov ← eval (.Name x np) X.env
      standAt apos.atName
      let (g, first) ← holding [ov] (getMethod ov m pl)
      callWith pos g first (backTo pos (starEach (e :: es) X.env)) (backToKw pos (keywordEach [] X.env))) := by rfl) :
    PE X (.Call (.Attribute (.Name x np) m apos) (e :: es) [] pos) (tCall sp [] E t) := by
  refine ⟨fun pins s σ H Q I h => PySem.W.methodCall_KW (pl := pl) (ld_glob I hg hm ?_ hdb) ht⟩
  refine PySem.W.method_cls I.kIn r.ga (PySem.W.cls_value I.kIn r.rd at_ (by rfl) ?_)
  exact PySem.W.callWith_K (first := []) (h₀ := X.base) I.ok.mod.kin kp (thn (ha.run pos pins _ σ H _ (I.tok _) h) fun us t1 ⟨vs, H1, I1, rv, q⟩ => ⟨I1.kIn, run_fn F room hb .nil hx I1 rv q⟩) he hpl
end

section
variable {X : Cx} {CX : CXT} {x : Str} {C g : Addr} {k : Nat} {fd : FuncData} {ps : List Str} {sp : Sp} {e : Expr} {es : List Expr} {t : TA} {np pos : Pos}
/-- what C(..) wishes: its __init__ at the new exception -/
def mkW (C : Addr) (sp : Sp) (vs : List V) (H1 : Hp) (Q : XK) : Prop := vs.length ≤ 1000 ∧ ∀ a, H1 a = none → sp (.ref a :: vs) (upd H1 a (exo a C none))
  (fun v H2 => v = .non ∧ ∃ (d : Addr) (fs : List (Str × V)), H2 a = some (exo a C (some d)) ∧ H2 d = some (exd d fs) ∧ H1 d = none ∧ Q (.ref C) (some d) (upd (del H2 a) d (.xd fs))) (fun _ _ _ => False)
theorem run_exc {pins : List (Addr × Obj)} {σ : L2.St} {H1 : Hp} {s : Shared} {Q : XK} {us : List Value} {vs : List V} (T : OexC X.K C) (iC : PySem.W.findIn X.K (.ref C) "__init__" = some (some (.ref g))) (tI : PySem.W.typeIn X.K (.ref g) = some (.type "function"))
    (F : FnOk X.prog X.w X.K X.mg X.base CX k g fd ps sp) (room : Room (k + 1) X.A) (hb : Binds X.K fd ps []) (hx : Passes CX X (fun _ _ _ => False)) (I : Inv X pins σ H1 s) (r : Vals vs us) (wish : mkW C sp vs H1 Q) :
    wpAny (model X.prog X.w) X.A (call (.ref C) us) (L2N.MkP X pins σ Q) X.xe s := by
  obtain ⟨nm, q, N, bs, bm, sn, sub, ab, col, dd, k0, k1, k2, k3, k5, hC, hbm⟩ := T.cls
  obtain ⟨hp, ge, dr, tk, os⟩ := s
  obtain ⟨few, q1⟩ := wish
  have size : hp.objs.size ≤ hp.objs.size + 1 := Nat.le_succ _
  have new : H1 (hp.objs.size + 1) = none := I.hok.fresh size
  have stay : ∀ b o, hp.get? b = some o → ((hp.push (PySem.W.kdv_tup us)).push (PySem.HandSPX.excO C hp.objs.size)).get? b = some o := fun b o z => Heap.get?_push_of_some _ (Heap.get?_push_of_some _ z)
  have there : ((hp.push (PySem.W.kdv_tup us)).push (PySem.HandSPX.excO C hp.objs.size)).get? (hp.objs.size + 1) = some (PySem.HandSPX.excO C hp.objs.size) := by heap_get
  have J : Inv X pins σ (upd H1 (hp.objs.size + 1) (exo (hp.objs.size + 1) C none)) ⟨(hp.push (PySem.W.kdv_tup us)).push (PySem.HandSPX.excO C hp.objs.size), ge, dr, tk, os⟩ := I.laid (t' := tk) stay size (exo_ok there)
  have rel : Vals (V.ref (hp.objs.size + 1) :: vs) (Value.ref (hp.objs.size + 1) :: us) := .cons rfl r
  have b := hb _ (Value.ref (hp.objs.size + 1) :: us) J.kIn (by rw [List.append_nil, ← rel.length]; exact F.len _ _ _ _ (q1 _ new))
  rw [List.append_nil] at b
  have room_ : us.length ≤ sizeLine := by
    have l := r.length
    rw [sizeLine_eq]
    omega
  refine wpAny_call (PySem.HandSPX.call_own PySem.F.excBase_ValueError (fun Y => PySem.HandSPX.refsVE_contains Y bm hbm) (I.kIn _ _ hC) (PySem.W.looks_findIn I.kIn iC) (fun self => PySem.W.bind_fn I.kIn self tI) room_ ?_)
  refine codeAny_mono (F.run _ X.stack _ _ ⟨Value.ref (hp.objs.size + 1) :: us, []⟩ (Value.ref (hp.objs.size + 1) :: us) _ _ (fun _ _ _ => False) (room.make C us []) (J.env0.make C us []) b rel (q1 _ new)) fun out t2 q2 => ?_
  match out, q2 with
  | .error er, q2 => exact hx pins σ _ _ er t2 J q2
  | .ok .next, q2 => exact q2.elim
  | .ok .brk, q2 => exact q2.elim
  | .ok .cont, q2 => exact q2.elim
  | .ok (.ret u), ⟨v, H2, os2, bare2, un2, hok2, rv, ev, d, fs, ea, ed, hd1, q3⟩ =>
    subst ev
    obtain ⟨h2, g2, d2, t2, os'⟩ := t2
    obtain ⟨t0, G, JG, kG, gone, obj, na⟩ := mk_end0 (d2 := d2) (t2 := t2) I size stay un2 hok2 os2 bare2 ea ed hd1
    exact ⟨rv, hp.objs.size + 1, _, _, ⟨G, g2, d2, t2, os'⟩, _, .ref C, some d, rfl, JG, kG, gone, obj, ⟨rfl, rfl, fun vs z => by cases z; rfl⟩, rfl, rfl, na, rfl, bare2, raises_own T.exC T.tyC, q3⟩
theorem pmk_args (T : OexC X.K C) (iC : PySem.W.findIn X.K (.ref C) "__init__" = some (some (.ref g))) (tI : PySem.W.typeIn X.K (.ref g) = some (.type "function"))
    (F : FnOk X.prog X.w X.K X.mg X.base CX k g fd ps sp) (room : Room (k + 1) X.A) (hb : Binds X.K fd ps []) (hx : Passes CX X (fun _ _ _ => False)) (hg : Gl X x) (hm : X.mg x = some (.ref C)) (ha : PA X (e :: es) t)
    (hdb : (x == ("__debug__" : Str)) = false := by decide) (he : starEach (e :: es) X.env = (false, eval e X.env) :: starEach es X.env := by rfl) (hpl : (backTo pos (starEach es X.env)).any (·.1) = false := by rfl) :
    L2N.PMk X (.Call (.Name x np) (e :: es) [] pos) (fun σ H Q => t σ H fun vs H1 => mkW C sp vs H1 Q) := fun pins s σ H Q I h =>
  wpAny_Call_Name_kw (ld_glob I hg hm (PySem.W.callWith_K (h₀ := X.base) I.ok.mod.kin T.kC (thn (ha.run pos pins s σ H _ I h) fun us t1 ⟨vs, H1, I1, r1, q1⟩ => ⟨I1.kIn, run_exc T iC tI F room hb hx I1 r1 q1⟩) he hpl) hdb)
theorem pmk_none (T : OexC X.K C) (iC : PySem.W.findIn X.K (.ref C) "__init__" = some (some (.ref g))) (tI : PySem.W.typeIn X.K (.ref g) = some (.type "function"))
    (F : FnOk X.prog X.w X.K X.mg X.base CX k g fd ps sp) (room : Room (k + 1) X.A) (hb : Binds X.K fd ps []) (hx : Passes CX X (fun _ _ _ => False)) (hg : Gl X x) (hm : X.mg x = some (.ref C)) (hdb : (x == ("__debug__" : Str)) = false := by decide) :
    L2N.PMk X (.Call (.Name x np) [] [] pos) (fun _ H Q => mkW C sp [] H Q) := fun pins s σ H Q I h =>
  wpAny_Call_Name_kw (ld_glob I hg hm (PySem.W.callWith_K0 I.kIn T.kC (run_exc (us := []) T iC tI F room hb hx I .nil h)) hdb)
end
end FlT
/-! A lambda handed to a def, without parameters or with one dummy parameter that has a default; exceptions bear the context None. -/
namespace FlT
open PySem PySem.Spec PyProof.Rows L2 LamX

/-- the lambda's names: parameters are none of the tracked ones, all else is captured or global -/
structure LamD (N : List Str) (sc scope : Scope) : Prop where
  kind : scope.kind = .function
  co : scope.isCoroutine = false
  gen : scope.isGenerator = false
  loc : ∀ y ∈ scope.names, y.2 = .local → y.1 ∉ N
  noc : ∀ y ∈ scope.names, y.2 ≠ .cell
  free : ∀ y ∈ scope.names, y.2 = .free → sc.names.lookup y.1 = some .cell ∨ sc.names.lookup y.1 = some .free
def lamDB (N : List Str) (sc scope : Scope) : Bool :=
  decide (scope.kind = .function) && (!scope.isCoroutine && (!scope.isGenerator && scope.names.all fun y =>
    (!decide (y.2 = .local) || !N.contains y.1) && (!decide (y.2 = .cell) && (!decide (y.2 = .free) || (decide (sc.names.lookup y.1 = some .cell) || decide (sc.names.lookup y.1 = some .free))))))
theorem lamD_by {N : List Str} {sc scope : Scope} (h : lamDB N sc scope = true) : LamD N sc scope := by
  unfold lamDB at h
  simp only [Bool.and_eq_true, Bool.or_eq_true, Bool.not_eq_true', decide_eq_true_eq, decide_eq_false_iff_not, List.all_eq_true] at h
  obtain ⟨a, b, c, d⟩ := h
  refine ⟨a, b, c, fun y hy e hn => ?_, fun y hy => (d y hy).2.1, fun y hy e => (d y hy).2.2.resolve_left (fun z => z e)⟩
  rcases (d y hy).1 with z | z
  · exact z e
  · rw [List.contains_iff_mem.mpr hn] at z
    cases z
theorem LamD.has {X : Cx} {scope : Scope} (L : LamD X.N X.env.scope scope) (ok : X.Ok) : ∀ y ∈ scope.names, y.2 = .free → ∃ c, X.env.cells.lookup y.1 = some c := fun y hy e =>
  (L.free y hy e).elim (fun k => ok.has _ (.inl k)) fun k => ok.has _ (.inr k)

abbrev lamF (q : Str) (params : Arguments) (body : Expr) (scope : Scope) (cl : List (Str × Addr)) (dV doc pm : Value) (c' : Addr) (ctv : Value) : FuncData := PySem.W.kdv_fn "<lambda>" q params (.expr body) scope cl dV doc pm (.ref c') ctv

section
variable {X : Cx} {pins : List (Addr × Obj)} {σ : L2.St} {H : Hp} {s : Shared} {T : List (Addr × Str)} {c P : Addr} {params : Arguments} {body : Expr} {scope : Scope} {pos : Pos} {E : Value → Shared → Prop} {Q : Value → Shared → Prop}
/-- what stood in the heap and is not tracked stands on -/
def Stays (H H1 : Hp) (h h1 : Heap) : Prop := ∀ b o, h.get? b = some o → H b = none → h1.get? b = some o ∧ H1 b = none
theorem lam_tail {dV : Value} {A : Around} (I : Inv X pins σ H s) (TB : TabB X.base X.mg c P) (hcode : X.env.code = .ref c) (hm : (P, X.env.qual ++ "<lambda>") ∈ T) (hu : ∀ p ∈ T, p.1 = P → p.2 = X.env.qual ++ "<lambda>") (hT : Tabs T H)
    (hfree : ∀ y ∈ scope.names, y.2 = .free → ∃ c, X.env.cells.lookup y.1 = some c)
    (h : ∀ (f c' : Addr) (doc pm ctv : Value) (H1 : Hp) (t1 : Shared), Inv X pins σ H1 t1 → ExtN H H1 → Tabs T H1 → Stays H H1 s.heap t1.heap →
      t1.heap.get? f = some { cls := .type "function", data := .func (lamF (X.env.qual ++ "<lambda>") params body scope (cloFrom X.env.cells scope.names []) dV doc pm c' ctv) } → H1 f = none → f ∉ frs X.stack → H1 c' = some (CodeO c' (X.env.qual ++ "<lambda>")) → Q (.ref f) t1) :
    wpAny (model X.prog X.w) A (makeTail "<lambda>" (X.env.qual ++ "<lambda>") params (.expr body) scope X.env dV .none none pos pos.line) Q E s := by
  obtain ⟨ps, hP, tri, known⟩ := hT _ hm
  have bP : s.heap.BuiltinsAt X.mg P := TB.bm.keeps I.bk
  have hP' : s.heap.get? P = some { cls := .none, data := .fields ps } := I.hok P _ hP
  have off : ∀ f, s.heap.objs.size ≤ f → f ∉ frs X.stack := fun f le z => (List.mem_cons.mp (I.stkSub _ z)).elim (fun e => Nat.lt_irrefl _ (Nat.lt_of_lt_of_le (e ▸ I.lt) le)) fun e => I.nofs le e
  cases look : codeAmong pos ps.toList with
  | none =>
    refine PySem.W.kdv_makeTail (mg := X.mg) (c := c) (P := P) (ps := ps) (closure_ok hfree) I.ok.glob (I.mod.glob.keeps I.bk) hcode (TB.code.keeps I.bk) hP' tri look TB.gP bP fun c' ctv doc h' tk hx ge lt rec_ tab => ?_
    obtain ⟨c2, oc, vs, t, e2, hoc, hd, hv⟩ := rec_
    cases e2
    have big : s.heap.objs.size ≤ h'.objs.size := Nat.le_trans ge (Nat.le_of_lt lt)
    have nC : H c' = none := I.hok.fresh ge
    have I1 := inv_table (t' := tk) (more := #[rawInt pos.line, rawInt pos.col, .ref c']) (h' := h'.push (PySem.W.kdv_obj "<lambda>" (X.env.qual ++ "<lambda>") params (.expr body) scope (cloFrom X.env.cells scope.names []) dV doc ((X.mg "__name__").getD .none) c' ctv)) I hP
      (fun b o hb e => Heap.get?_push_of_some _ (hx b o hb e)) (Heap.get?_push_of_some _ tab) ge ⟨oc, vs, t, Heap.get?_push_of_some _ hoc, hd, hv⟩
    have ext : ExtN H (upd (upd H P (.tbl (ps ++ #[rawInt pos.line, rawInt pos.col, .ref c']))) c' (CodeO c' (X.env.qual ++ "<lambda>"))) := fun b o e n => by
      rw [upd_ne (ne_of_none e nC), upd_ne (fun z => n ps (Option.some.inj (e.symm.trans ((congrArg H z).trans hP))))]
      exact e
    have lst : (ps ++ #[rawInt pos.line, rawInt pos.col, .ref c']).toList = ps.toList ++ [rawInt pos.line, rawInt pos.col, .ref c'] := by simp
    refine h h'.objs.size c' doc ((X.mg "__name__").getD .none) ctv _ _ I1 ext (fun p hp => ?_) (fun b o e n => ?_) (Heap.get?_push_size _ rfl) ?_ (off _ big) upd_same
    · by_cases hb : p.1 = P
      · rw [hu p hp hb, hb]
        refine ⟨_, by rw [upd_ne (ne_of_none hP nC), upd_same], by rw [lst]; exact PySem.TriplesOk_snoc _ _ _ _ tri, fun p' cv hcv => ?_⟩
        rw [lst] at hcv
        rcases among_app _ tri hcv with z | z
        · obtain ⟨c0, e1, e2⟩ := known p' cv z
          exact ⟨c0, e1, ext _ _ e2 codeO_ne⟩
        · exact ⟨c', z, upd_same⟩
      · obtain ⟨ps', a1, a2, a3⟩ := hT p hp
        refine ⟨ps', by rw [upd_ne (ne_of_none a1 nC), upd_ne hb]; exact a1, a2, fun p' cv hcv => ?_⟩
        obtain ⟨c0, e1, e2⟩ := a3 p' cv hcv
        exact ⟨c0, e1, ext _ _ e2 codeO_ne⟩
    · have nP : b ≠ P := fun z => by
        rw [z, hP] at n
        cases n
      have nc : b ≠ c' := Nat.ne_of_lt (Nat.lt_of_lt_of_le (Heap.lt_size e) ge)
      exact ⟨Heap.get?_push_of_some _ (hx b o nP e), by rw [upd_ne nc, upd_ne nP]; exact n⟩
    · rw [upd_ne (Nat.ne_of_gt lt), upd_ne (Nat.ne_of_gt (Nat.lt_of_lt_of_le (Heap.lt_size hP') big))]
      exact I.hok.fresh big
  | some cv =>
    obtain ⟨c', e, hco⟩ := known pos cv look
    subst e
    refine PySem.W.kdv_makeTailHit (mg := X.mg) (c := c) (P := P) (ps := ps) (closure_ok hfree) I.ok.glob (I.mod.glob.keeps I.bk) hcode (TB.code.keeps I.bk) hP' tri look bP fun ctv doc h' tk hx big => ?_
    have I1 : Inv X pins σ H { s with heap := h'.push { cls := .type "function", data := .func (lamF (X.env.qual ++ "<lambda>") params body scope (cloFrom X.env.cells scope.names []) dV doc ((X.mg "__name__").getD .none) c' ctv) }, toks := tk } := I.kept fun b o e => Heap.get?_push_of_some _ (hx b o e)
    exact h h'.objs.size c' doc ((X.mg "__name__").getD .none) ctv H _ I1 (ExtN.refl H) hT (fun b o e n => ⟨Heap.get?_push_of_some _ (hx b o e), n⟩) (Heap.get?_push_size _ rfl) (I.hok.fresh big) (off _ big) hco

/-- the lambda's own parameters: none, or one with an int as its default -/
inductive Dums (params : Arguments) (body : Expr) (scope : Scope) : List Str → Prop
  | none (d : ∀ env, defaultsOf params env = ([], [])) (b : ∀ (q : Str) (cl : List (Str × Addr)) (doc pm ctv : Value) (c' : Addr), bindArgs (lamF q params body scope cl .none doc pm c' ctv) ⟨[], []⟩ = pure []) : Dums params body scope []
  | one {a : Str} {i : Int} {j : Nat} {p : Pos} (d : ∀ env, defaultsOf params env = ([eval (.Constant (.int i) j p) env], []))
      (b : ∀ (q : Str) (cl : List (Str × Addr)) (doc pm ctv : Value) (c' D : Addr) (u : Value), ∃ k, bindArgs (lamF q params body scope cl (.ref D) doc pm c' ctv) ⟨[], []⟩ = seqItems? (.ref D) >>= k ∧ k (some #[u]) = pure [(a, u)]) : Dums params body scope [a]

/-- the lambda at f may be called with no arguments, whatever became of the tracked objects -/
def Ready (X : Cx) (f c' : Addr) (params : Arguments) (body : Expr) (scope : Scope) (as : List Str) (H : Hp) (h : Heap) : Prop :=
  ∃ (dV doc pm ctv : Value), h.get? f = some { cls := .type "function", data := .func (lamF (X.env.qual ++ "<lambda>") params body scope (cloFrom X.env.cells scope.names []) dV doc pm c' ctv) } ∧ H f = none ∧ f ∉ frs X.stack ∧
    ∀ t1 : Shared, (∀ b o, h.get? b = some o → H b = none → b ∉ frs X.stack → t1.heap.get? b = some o) →
      ∃ us : List Value, us.length = as.length ∧ BindsTo t1 (lamF (X.env.qual ++ "<lambda>") params body scope (cloFrom X.env.cells scope.names []) dV doc pm c' ctv) ⟨[], []⟩ (as.zip us)

theorem lam_made {as : List Str} (I : Inv X pins σ H s) (TB : TabB X.base X.mg c P) (hcode : X.env.code = .ref c) (hm : (P, X.env.qual ++ "<lambda>") ∈ T) (hu : ∀ p ∈ T, p.1 = P → p.2 = X.env.qual ++ "<lambda>") (hT : Tabs T H)
    (hfree : ∀ y ∈ scope.names, y.2 = .free → ∃ c, X.env.cells.lookup y.1 = some c) (du : Dums params body scope as)
    (h : ∀ (f c' : Addr) (H1 : Hp) (t1 : Shared), Inv X pins σ H1 t1 → ExtN H H1 → Tabs T H1 → Ready X f c' params body scope as H1 t1.heap → H1 c' = some (CodeO c' (X.env.qual ++ "<lambda>")) → Q (.ref f) t1) :
    wpAny (model X.prog X.w) X.A (eval (.Lambda params body scope pos) X.env) Q E s := by
  rw [arm_eval_Lambda]
  cases du with
  | none d b =>
    rw [d]
    refine wpAny_bind (wpAny_pure (wpAny_bind (wpAny_holding (wpAny_pure ?_))))
    rw [makeFunction_eq]
    simp only [List.zip_nil_right, List.filterMap_nil, List.isEmpty_nil, if_true, pure_bind]
    refine lam_tail I TB hcode hm hu hT hfree fun f c' doc pm ctv H1 t1 I1 e1 T1 st gf nf off hc => h f c' H1 t1 I1 e1 T1 ⟨_, doc, pm, ctv, gf, nf, off, fun t2 _ => ⟨[], rfl, BindsTo.of_eq (b _ _ _ _ _ _)⟩⟩ hc
  | @one a i j p d b =>
    rw [d]
    refine wpAny_bind (wpAny_evalAll_cons (thn ((pe_int (X := X) (i := i) (j := j) (pos := p)).run pins s σ H (fun v H1 => v = .int i ∧ H1 = H) I ⟨rfl, rfl⟩) fun u t1 ⟨v, H1, I1, r1, ev, eH⟩ => ?_))
    rw [eH] at I1
    refine wpAny_evalAll_nil (wpAny_bind (wpAny_holding (wpAny_pure ?_)))
    rw [makeFunction_eq]
    simp only [List.zip_nil_right, List.filterMap_nil, List.isEmpty_nil, List.isEmpty_cons, Bool.false_eq_true, if_false, if_true, pure_bind]
    refine wpAny_bind (wpAny_newTextTuple ?_)
    have nD : H t1.heap.objs.size = Option.none := I1.hok.fresh (Nat.le_refl _)
    have I2 : Inv X pins σ H { t1 with heap := t1.heap.push { cls := .type "tuple", data := .seq [u].toArray } } := I1.kept fun b o e => Heap.get?_push_of_some _ e
    have offD : t1.heap.objs.size ∉ frs X.stack := fun z => (List.mem_cons.mp (I1.stkSub _ z)).elim (fun e => Nat.lt_irrefl _ (Nat.lt_of_lt_of_le (e ▸ I1.lt) (Nat.le_refl _))) fun e => I1.nofs (Nat.le_refl _) e
    refine lam_tail I2 TB hcode hm hu hT hfree fun f c' doc pm ctv H3 t3 I3 e3 T3 st gf nf off hc => h f c' H3 t3 I3 e3 T3 ⟨_, doc, pm, ctv, gf, nf, off, fun t4 keep => ?_⟩ hc
    obtain ⟨g1, g2⟩ := st t1.heap.objs.size _ (Heap.get?_push_size _ rfl) nD
    obtain ⟨k, k1, k2⟩ := b (X.env.qual ++ "<lambda>") (cloFrom X.env.cells scope.names []) doc pm ctv c' t1.heap.objs.size u
    refine ⟨[u], rfl, fun M A E Q q => ?_⟩
    rw [k1]
    refine wpAny_bind (wpAny_seqItems (keep _ _ g1 g2 offD) rfl ?_)
    show wpAny M A (k (some #[u])) Q E t4
    rw [k2]
    exact wpAny_pure q
end
end FlT
/-! The lambda called by the def that got it; the rule x(lambda ..: body). -/
namespace FlT
open PySem PySem.Spec PyProof.Rows L2 LamX

/-- the context of the lambda's body; what leaves it bears the context None -/
def lamN (X : Cx) (A : Around) (outer : List Env) (s : Shared) (H : Hp) (E : XK) (scope : Scope) (f c' : Addr) : Cx :=
  { LamX.lamCx X A outer s H E scope f c' with xe := fun e t => wpAny (model X.prog X.w) (A.deeper (lamEnv X scope s.heap.objs.size f c')) (leaving (lamEnv X scope s.heap.objs.size f c') e) (fun _ u => L2N.CX X.prog X.w outer H s E e u) (fun e' u => L2N.CX X.prog X.w outer H s E e' u) t }
theorem lamN_takes {X : Cx} {A : Around} {outer : List Env} {s : Shared} {H : Hp} {E : XK} {scope : Scope} {f c' : Addr} : L2N.Takes (lamN X A outer s H E scope f c') (fun cls d _ H => E cls d H) := L2N.takes_of rfl rfl rfl rfl

section
variable {X : Cx} {pins : List (Addr × Obj)} {σ : L2.St} {H HZ : Hp} {s t1 : Shared}
theorem lam_in {A : Around} {outer : List Env} {E : XK} {scope : Scope} {f c' : Addr} {h₁ : Heap} {tk : Nat} {bs : List (Str × Value)} (I : Inv X pins σ H s) (L : LamD X.N X.env.scope scope) (e0 : Env0 X.prog X.w X.K X.mg X.base A outer t1 HZ) (calm : A.handled = none)
    (un : Un (frs X.stack) [] H HZ s.heap t1.heap) (hns : h₁.Ns t1.heap.objs.size fun y => bs.reverse.lookup y) (kp : ∀ b o, t1.heap.get? b = some o → h₁.get? b = some o) :
    Inv (lamN X A outer t1 HZ E scope f c') [] σ HZ { t1 with heap := h₁, toks := tk } := by
  have has := L.has I.ok
  have up : ∀ {y c}, (cloFrom X.env.cells scope.names []).lookup y = some c → X.env.cells.lookup y = some c := fun {y c} e => by
    rcases cloFrom_mem (PySem.mem_of_lookup e) with z | ⟨z1, z2⟩
    · cases z
    · obtain ⟨c1, hc⟩ := has _ z1 rfl
      have hc : X.env.cells.lookup y = some c1 := hc
      have e2 : c = c1 := by
        rw [z2, hc] <;> rfl
      exact e2 ▸ hc
  have down : ∀ {y}, scope.names.lookup y = some .free → ∃ c, (cloFrom X.env.cells scope.names []).lookup y = some c := fun {y} e =>
    mem_lookup (cloFrom_has (cells := X.env.cells) (acc := []) (show (y, NameKind.free) ∈ scope.names from PySem.mem_of_lookup e))
  have cell_ : ∀ {c : Addr} {v : Option Value}, H c = none → s.heap.IsCell c v → h₁.IsCell c v := fun {c v} n ⟨o, ho, hd⟩ => by
    obtain ⟨sl, q⟩ := un.any ho n (by simp)
    exact ⟨_, kp _ _ q, hd⟩
  have noX : ∀ b : Addr, b ∉ (lamN X A outer t1 HZ E scope f c').ex := fun b z => absurd (show b ∈ ([] : List Addr) from z) (by simp)
  refine ⟨⟨e0.mod, L.kind, rfl, rfl, Nat.le_refl _, fun y z c e1 e2 => I.ok.inj y z c (up e1) (up e2), fun y hy => ?_, fun y c z _ => Bool.noConfusion (show false = true from z), fun _ => calm, Around.frames_deeper e0.frames, .inr ⟨rfl, rfl⟩, fun b z => absurd z (noX b), e0.bs, e0.bsz, fun b _ _ => noX b,
      fun b z => absurd z (noX b), e0.funs, e0.frf⟩,
    rfl, e0.bare, Un.kept kp, ⟨_, hns, fun i y v e1 e2 e3 => ?_⟩, fun y c e => ?_, e0.hok.fresh (Nat.le_refl _), fun y c e => ?_, fun q hq => absurd (show q ∈ ([] : List (Addr × Obj)) ++ [] from hq) (by simp), e0.hok.kept kp, I.len⟩
  · rcases (show scope.names.lookup y = some .cell ∨ scope.names.lookup y = some .free from hy) with k | k
    · exact absurd rfl (L.noc _ (PySem.mem_of_lookup k))
    · exact down k
  · rcases (show Vis scope y from e3) with k | k | k
    · exact absurd (List.mem_of_getElem? (show X.N[i]? = some y from e1)) (L.loc _ (PySem.mem_of_lookup k) rfl)
    · exact absurd rfl (L.noc _ (PySem.mem_of_lookup k))
    · obtain ⟨m, hn, hl⟩ := I.loc
      have out := L.free _ (PySem.mem_of_lookup k) rfl
      obtain ⟨w', r, q⟩ := hl i y v e1 e2 (out.elim (fun k => .inr (.inl k)) (fun k => .inr (.inr k)))
      obtain ⟨c2, h2⟩ := down k
      refine ⟨w', r, .inr ⟨.inr k, c2, h2, ?_⟩⟩
      have c1 := up h2
      rcases q with ⟨k', _⟩ | ⟨_, c3, e', z⟩
      · have k' : X.env.scope.names.lookup y = some .local := k'
        rcases out with k2 | k2 <;> rw [show X.env.scope.names.lookup y = _ from k2] at k' <;> cases k'
      · rw [c1] at e'
        cases e'
        exact cell_ (I.freeC y _ c1) z
  · obtain ⟨w', z⟩ := I.cell y c (up e)
    exact ⟨w', cell_ (I.freeC y c (up e)) z⟩
  · obtain ⟨v, o, ho, _⟩ := I.cell y c (up e)
    exact un.free c o ho (I.freeC y c (up e)) (by simp)

/-- a(): a is the name under which the def got the lambda -/
theorem pe_ask {CXg : CXT} {Eg : XK} {Ng : List Str} {qg : Str} {sg : Scope} {g f c' : Addr} {cdg : Value} {params : Arguments} {body : Expr} {scope : Scope} {as : List Str} {k i : Nat} {a : Str} {pn : List (Addr × Obj)} {xe : Value → Shared → Prop} {W : WX} {E : XK} {tb : TE} {p1 p2 : Pos}
    (I : Inv X pins σ H s) (L : LamD X.N X.env.scope scope) (rd : Ready X f c' params body scope as H s.heap) (locs : ∀ y ∈ as, scope.names.lookup y = some .local)
    (tk : L2N.Takes ((cxOf CXg X.prog X.w X.K X.mg X.base Ng qg sg g cdg X.A X.stack s H Eg).tr pn xe) W) (hW : ∀ cls d σ' H', E cls d H' → W cls d σ' H') (room : Room (k + 1) (X.A.deeper (envOfC qg sg s.heap.objs.size g cdg)))
    (hbody : ∀ (A : Around) (outer : List Env) (s : Shared) (H : Hp), Room k (A.deeper (lamEnv X scope s.heap.objs.size f c')) → PE (lamN X A outer s H E scope f c') body tb)
    (hN : Ng[i]? = some a) (hv : Vis sg a) (hd : (a == ("__debug__" : Str)) = false := by decide) (hcd : (a == ("__classdict__" : Str)) = false := by decide) :
    PE ((cxOf CXg X.prog X.w X.K X.mg X.base Ng qg sg g cdg X.A X.stack s H Eg).tr pn xe) (.Call (.Name a p1) [] [] p2)
      (fun σZ HZ Q => σZ[i]? = some (some (.ref f)) ∧ HZ c' = some (CodeO c' (X.env.qual ++ "<lambda>")) ∧ tb σ HZ Q) := by
  refine ⟨fun pinsZ sZ σZ HZ Q IZ ⟨slot, code, wish⟩ => ?_⟩
  refine wpAny_Call_Name_kw (thn ((pe_var (pos := p1) (i := i) hN hv hd hcd).run pinsZ sZ σZ HZ (fun v H1 => v = .ref f ∧ H1 = HZ) IZ ⟨.ref f, slot, rfl, rfl⟩) fun u t1 ⟨v, H1, I1, r1, ev, eH⟩ => ?_)
  subst ev
  rw [eH] at I1
  obtain rfl : u = Value.ref f := r1
  obtain ⟨dV, doc, pm, ctv, gf, nf, off, bind⟩ := rd
  have un : Un (frs X.stack) [] H HZ s.heap t1.heap := I1.base
  have keep : ∀ b o, s.heap.get? b = some o → H b = none → b ∉ frs X.stack → t1.heap.get? b = some o := fun b o e n z => un.keep b o e n z (fun z => nomatch (show b ∈ ([] : List Addr) from z))
  have of1 := keep f _ gf nf off
  obtain ⟨us, len, bt⟩ := bind t1 keep
  refine PySem.W.callWith_F0 ⟨_, _, _, _, of1⟩ ?_
  obtain ⟨⟨oc, vs, t, hoc, hdc, hvc⟩, _, _⟩ := I1.hok c' _ code
  have rc : codeAny (model X.prog X.w) (X.A.deeper (envOfC qg sg s.heap.objs.size g cdg)) (.call (.ref f) ⟨[], []⟩) (CR (L2N.CX X.prog X.w) (envOfC qg sg s.heap.objs.size g cdg :: X.stack) X.prog X.w HZ t1 Q E) t1 := by
    refine PySem.W.kla_callFunE room.depth of1 rfl L.co L.gen rfl ⟨c', oc, vs, t, rfl, hoc, hdc, hvc⟩ (bt _ _ _ _ ?_)
    refine wpAny_newFunctionEnv L.noc (fun y hy => locs _ (List.of_mem_zip (a := y.1) (b := y.2) hy).1) (fun h₁ hns hsb => ⟨I1.nolimit.fresh _ hsb, ?_⟩) L.kind
    show codeAny _ _ (.expr body (lamEnv X scope t1.heap.objs.size f c')) _ _
    have kp : ∀ b o, t1.heap.get? b = some o → h₁.get? b = some o := fun b o e => hsb.extBut b o (Nat.ne_of_lt (Heap.lt_size e)) (Heap.get?_push_of_some _ e)
    have J : Inv (lamN X (X.A.deeper (envOfC qg sg s.heap.objs.size g cdg)) (envOfC qg sg s.heap.objs.size g cdg :: X.stack) t1 HZ E scope f c') [] σ HZ { t1 with heap := h₁, toks := t1.toks + (as.zip us).length } := lam_in I L I1.env0 room.hd un hns kp
    refine PySem.W.kla_codeExpr (wpAny_mono ((hbody _ _ t1 HZ (room.deeper _)).run [] _ _ HZ Q J wish) (fun v t2 ⟨w', H', J', rv, q⟩ => ?_) fun e t2 q => q)
    exact ⟨w', H', J'.os, J'.bare, J'.base, J'.hok, rv, q⟩
  refine wpAny_call (codeAny_mono rc fun r t2 q => ?_)
  match r, q with
  | .error e, q => exact L2N.passes_call tk hW pinsZ σZ HZ t1 e t2 I1 q
  | .ok (.ret u), q => exact I1.after q
  | .ok .next, q => exact q.elim
  | .ok .brk, q => exact q.elim
  | .ok .cont, q => exact q.elim
end

/-- the def that calls what it got under the name a; TT: what it makes of the lambda's reading -/
def GivesN (X : Cx) (Ng : List Str) (x : Str) (sg : Scope) (g : Addr) (cdg : Value) (bg : List Stmt) (a q : Str) (j : Nat) (TT : (XK → Hp → VK → Prop) → Hp → VK → Prop) : Prop :=
  ∀ (f c' : Addr) (s : Shared) (H : Hp) (Q : VK) (tl : XK → Hp → VK → Prop), Room j (X.A.deeper (envOfC x sg s.heap.objs.size g cdg)) →
    (∀ (W : WX) (pn : List (Addr × Obj)) (xe : Value → Shared → Prop) (E : XK) (p1 p2 : Pos), L2N.Takes ((cxOf C8.CX0 X.prog X.w X.K X.mg X.base Ng x sg g cdg X.A X.stack s H C8.E0).tr pn xe) W → (∀ cls d σ' H', E cls d H' → W cls d σ' H') →
      PE ((cxOf C8.CX0 X.prog X.w X.K X.mg X.base Ng x sg g cdg X.A X.stack s H C8.E0).tr pn xe) (.Call (.Name a p1) [] [] p2) (fun σZ HZ Q => σZ[0]? = some (some (.ref f)) ∧ HZ c' = some (CodeO c' q) ∧ tl E HZ Q)) →
    H c' = some (CodeO c' q) → TT tl H Q →
    ∃ t, PSs (cxOf C8.CX0 X.prog X.w X.K X.mg X.base Ng x sg g cdg X.A X.stack s H C8.E0).nox bg t ∧ t { nx := fun _ H' => Q .non H', rt := Q } (L2.start Ng [.ref f]) H
section
variable {X : Cx}
theorem pe_lam {T : List (Addr × Str)} {TT : (XK → Hp → VK → Prop) → Hp → VK → Prop} {x a : Str} {g c P : Addr} {k : Nat} {pg : Arguments} {bg : List Stmt} {sg : Scope} {dV kV doc pm cdv ct oc : Value} {an od : Option Addr} {osl : Array (Option Value)} {Ng as : List Str}
    {params : Arguments} {body : Expr} {scope : Scope} {t : XK → TE} {p lpos pos : Pos} (hg : Gl X x) (hm : X.mg x = some (.ref g)) (hk : PySem.W.keepIn X.K (.ref g) = true)
    (lk : X.K.lookup g = some ⟨oc, od, .func (PySem.W.fnOf x x pg bg sg dV kV doc pm an cdv ct), osl⟩) (hcg : PySem.W.codeIn X.K cdv x = true) (hb : L2.Binds X.K (PySem.W.fnOf x x pg bg sg dV kV doc pm an cdv ct) [a] []) (Sg : FnScope Ng [a] sg) (hNg : Ng[0]? = some a) (hva : Vis sg a)
    (hG : GivesN X Ng x sg g cdv bg a (X.env.qual ++ "<lambda>") (k + 1) TT)
    (TB : TabB X.base X.mg c P) (hcode : X.env.code = .ref c) (hmT : (P, X.env.qual ++ "<lambda>") ∈ T) (hu : ∀ p ∈ T, p.1 = P → p.2 = X.env.qual ++ "<lambda>") (room : Room (k + 2) X.A) (L : LamD X.N X.env.scope scope) (du : Dums params body scope as) (locs : ∀ y ∈ as, scope.names.lookup y = some .local)
    (hbody : ∀ (A : Around) (outer : List Env) (s : Shared) (H : Hp) (E : XK) (f c' : Addr), Room k (A.deeper (lamEnv X scope s.heap.objs.size f c')) → PE (lamN X A outer s H E scope f c') body (t E))
    (hdb : (x == ("__debug__" : Str)) = false := by decide) (hd : (a == ("__debug__" : Str)) = false := by decide) (hcd : (a == ("__classdict__" : Str)) = false := by decide) :
    PE X (.Call (.Name x p) [.Lambda params body scope lpos] [] pos) (tLam T TT t) := by
  refine ⟨fun pins s σ H Q I ⟨hT, wish⟩ => wpAny_Call_Name_kw (ld_glob I hg hm ?_ hdb)⟩
  refine PySem.W.callWith_K (h₀ := X.base) I.ok.mod.kin hk ?_ (by rfl) (by rfl)
  show wpAny _ _ (spliced ((false, eval (.Lambda params body scope lpos) X.env) :: backTo pos (starEach [] X.env))) _ _ s
  refine Calls.spliced_cons (lam_made I TB hcode hmT hu hT (L.has I.ok) du fun f c' H1 t1 I1 e1 T1 rd hco => Calls.spliced_nil ⟨I1.kIn, ?_⟩)
  have rc : codeAny (model X.prog X.w) X.A (.call (.ref g) ⟨[.ref f], []⟩) (CR C8.CX0 X.stack X.prog X.w H1 t1 Q C8.E0) t1 := by
    refine run_ofS (N := Ng) (ps := [a]) (us := [.ref f]) (vs := [.ref f]) lk hcg Sg room I1.env0 (hb t1 [.ref f] I1.kIn rfl) (.cons rfl .nil) rfl fun room1 => ?_
    obtain ⟨t', ht', hq'⟩ := hG f c' t1 H1 Q (fun E H' Q' => t E σ H' Q') room1 (fun W pn xe E p1 p2 tk hW => pe_ask (i := 0) I1 L rd locs tk hW room1 (fun A outer s H room2 => hbody A outer s H E f c' room2) hNg hva hd hcd) hco (wish H1 e1 T1)
    exact ⟨t', ht'.nox, hq'⟩
  refine wpAny_call (codeAny_mono rc fun r t2 q => ?_)
  match r, q with
  | .error e, q => exact (show False from q).elim
  | .ok (.ret u), q => exact I1.after q
  | .ok .next, q => exact q.elim
  | .ok .brk, q => exact q.elim
  | .ok .cont, q => exact q.elim
end
end FlT
/-! What stays where the bag is drawn from and tables of code objects are written. -/
namespace L2.FK
open PySem PySem.Spec PyProof.Rows L2.FL FlT LamX
/-- the heap without tables -/
def noT (H : Hp) : Hp := fun x => match H x with
  | some (.tbl _) => none
  | o => o
theorem noT_of {H : Hp} {x : Addr} {o : HO} (h : H x = some o) (n : ∀ ps, o ≠ .tbl ps) : noT H x = some o := by
  unfold noT
  rw [h]
  split
  · rename_i q; cases q; exact absurd rfl (n _)
  · rfl
theorem of_noT {H : Hp} {x : Addr} {o : HO} (h : noT H x = some o) : H x = some o ∧ ∀ ps, o ≠ .tbl ps := by
  unfold noT at h
  split at h
  · cases h
  · rename_i q
    exact ⟨h, fun ps e => q ps (by rw [h, e])⟩
section
variable {H H' : Hp} {v : V} {b sa : Addr}
theorem PlAt.nt {p : Pl} (h : PlAt H v p) : PlAt (noT H) v p := let ⟨t, e, q⟩ := h; ⟨t, e, noT_of q fun _ z => nomatch z⟩
theorem IntsAt.nt {ns : List Int} (h : IntsAt H v ns) : IntsAt (noT H) v ns := let ⟨t, e, q⟩ := h; ⟨t, e, noT_of q fun _ z => nomatch z⟩
theorem RowAt.nt {row : List Pl} (h : RowAt H v row) : RowAt (noT H) v row := let ⟨a, vs, e, q, r⟩ := h; ⟨a, vs, e, noT_of q (fun _ z => nomatch z), paired_mono r fun _ _ z => z.nt⟩
theorem RowsAt.nt {rows : List (List Pl)} (h : RowsAt H v rows) : RowsAt (noT H) v rows := let ⟨a, vs, e, q, r⟩ := h; ⟨a, vs, e, noT_of q (fun _ z => nomatch z), paired_mono r fun _ _ z => z.nt⟩
theorem DAt.nt {ds : List Int} {rows : List (List Pl)} (h : DAt H v ds rows) : DAt (noT H) v ds rows := let ⟨t, v1, v2, e, q, r1, r2⟩ := h; ⟨t, v1, v2, e, noT_of q (fun _ z => nomatch z), r1.nt, r2.nt⟩
theorem Rep.nt {kvs : List (List Key × V)} {S : Pl → Pl → Prop} (r : Rep H kvs S) : Rep (noT H) kvs S :=
  ⟨fun p q h => let ⟨v, e, z⟩ := r.has p q h; ⟨v, e, z.nt⟩, fun kv h => let ⟨p, q, e, z, y⟩ := r.only kv h; ⟨p, q, e, z, y.nt⟩⟩
theorem Rep.bag (B : BagAt H b sa) {kvs : List (List Key × V)} {S : Pl → Pl → Prop} (r : Rep H kvs S) : Rep (FK.del b H) kvs S :=
  ⟨fun p q h => let ⟨v, e, z⟩ := r.has p q h; ⟨v, e, z.bag B⟩, fun kv h => let ⟨p, q, e, z, y⟩ := r.only kv h; ⟨p, q, e, z, y.bag B⟩⟩
theorem LMap.nt {C : Addr} {ds : List Int} {T : List (List Pl)} (h : LMap C H v ds T) : LMap C (noT H) v ds T :=
  let ⟨p, dx, a1, v2, a3, a4, im, og, e, h1, h2, h3, h4, h5, h6, h7⟩ := h
  ⟨p, dx, a1, v2, a3, a4, im, og, e, noT_of h1 fun _ z => (nomatch z), noT_of h2 fun _ z => (nomatch z), h3.nt, noT_of h4 fun _ z => (nomatch z), h5.nt, noT_of h6 fun _ z => (nomatch z), h7.nt⟩
theorem LMap.bag (B : BagAt H b sa) {C : Addr} {ds : List Int} {T : List (List Pl)} (h : LMap C H v ds T) : LMap C (FK.del b H) v ds T := by
  obtain ⟨p, dx, a1, v2, a3, a4, im, og, e, h1, h2, h3, h4, h5, h6, h7⟩ := h
  have hI : IntsAt (FK.del b H) (.ref a1) ds := IntsAt.bag B ⟨a1, rfl, h2⟩
  obtain ⟨a1', e1, h2'⟩ := hI
  cases e1
  have B' := B
  obtain ⟨_, i, held, mix, cnt, hb, _⟩ := B
  exact ⟨p, dx, a1, v2, a3, a4, im, og, e, del_of hb h1 (fun z => (nomatch z)), h2', h3.bag B', del_of hb h4 (fun z => (nomatch z)), h5.bag B', del_of hb h6 (fun z => (nomatch z)), h7.bag B'⟩
/-- the heap without the bag and without tables -/
def frm (b : Addr) (H : Hp) : Hp := noT (del b H)
theorem frm_in : Same (frm b H) H := fun x o h => (of_del (of_noT h).1).1
theorem frm_bag (s : Same (del b H) (del b H')) : Same (frm b H) (frm b H') := fun x o h => let ⟨h1, h2⟩ := of_noT h; noT_of (s _ _ h1) h2
theorem frm_same (s : Same H H') : Same (frm b H) (frm b H') := frm_bag (same_dels s)
theorem frm_ext (e : ExtN H H') : Same (frm b H) (frm b H') := fun x o h => by
  obtain ⟨h1, h2⟩ := of_noT h
  obtain ⟨h3, h4⟩ := of_del h1
  exact noT_of (by rw [del_ne h4]; exact e _ _ h3 h2) h2
theorem PlAt.frm (B : BagAt H b sa) {p : Pl} (h : PlAt H v p) : PlAt (frm b H) v p := (h.bag B).nt
theorem DAt.frm (B : BagAt H b sa) {ds : List Int} {rows : List (List Pl)} (h : DAt H v ds rows) : DAt (FK.frm b H) v ds rows := (h.bag B).nt
theorem LMap.frm (B : BagAt H b sa) {C : Addr} {ds : List Int} {T : List (List Pl)} (h : LMap C H v ds T) : LMap C (FK.frm b H) v ds T := (h.bag B).nt
theorem BagAt.ext (e : ExtN H H') (h : BagAt H b sa) : BagAt H' b sa := by
  obtain ⟨ns, i, held, mix, cnt, h1, h2, r⟩ := h
  obtain ⟨h3, h4⟩ := of_del h2
  exact ⟨ns, i, held, mix, cnt, e _ _ h1 (fun _ z => nomatch z), by rw [del_ne h4]; exact e _ _ h3 (fun _ z => nomatch z), r⟩
theorem tabs_same {T : List (Addr × Str)} (t : Tabs T H) (s : Same H H') : Tabs T H' := fun p hp => (t p hp).ext s
theorem tabs_bag {T : List (Addr × Str)} (t : Tabs T H) (B : BagAt H b sa) (s : Same (del b H) (del b H')) : Tabs T H' := fun p hp => by
  obtain ⟨ps, h1, h2, h3⟩ := t p hp
  obtain ⟨_, i, held, mix, cnt, hb, _⟩ := B
  refine ⟨ps, (of_del (s _ _ (del_of hb h1 fun z => nomatch z))).1, h2, fun pos cv hc => ?_⟩
  obtain ⟨c, e1, e2⟩ := h3 pos cv hc
  exact ⟨c, e1, (of_del (s _ _ (del_of hb e2 fun z => nomatch z))).1⟩
end
end L2.FK
/-! x == y and x != y of instances by an own __eq__, with either answer. -/
namespace PySem.W
open PySem
section
variable {prog : Program} {w : World} {A A₀ : Around} {E : Value → Shared → Prop} {s : Shared} {K : Frag} {x y C L f : Addr} {h₀ : Heap} {m : Str → Option Value} {ox oy : Obj} {od od' : Option Obj} {name : Str}
theorem ifBound_B {M : Model} {id : String} {args : List Value} {Q : Option Value → Shared → Prop} (X : K.In s.heap) (I : InstAt s.heap x ox C od) (hs : findIn K (.ref C) name = some (some (.builtin id))) (S : Slot "object" name id)
    (h : wpAny M A (call (.builtin id) (.ref x :: args)) (fun v => Q (some v)) E s) : wpAny M A (callSpecialIfBound? (.ref x) name args) Q E s := by
  simp only [callSpecialIfBound?, bindSpecialIfBound?]
  refine wpAny_holding (wpAny_bind (wpAny_bind (wpAny_bind (I.type.here ((looks_findIn X hs).here ?_)))))
  simp only [S.bind]
  refine wpAny_bind (wpAny_askSetting (wpAny_ite ?_))
  have fin : wpAny M A (call (.builtin id) ([.ref x] ++ args) >>= fun v => pure (some v)) Q E s := wpAny_bind (wpAny_mono h (fun v s' h' => wpAny_pure h') fun _ _ h' => h')
  split
  · exact wpAny_bind (wpAny_pure (wpAny_pure fin))
  · exact wpAny_tryCatch (wpAny_bind (wpAny_pure (wpAny_pure fin)))
theorem check_slotK {M : Model} {id owner n : String} {rest : List Value} {Q : Unit → Shared → Prop} (X : K.In s.heap) (I : InstAt s.heap x ox C od) (hk : builtinKind id = some .slot) (hs : splitId id = some (owner, n))
    (ha : argsOk id ⟨.ref x :: rest, []⟩) (hob : subIn K (.ref C) (.type owner) = some true) (hq : Q () s) : wpAny M A (checkBuiltinCall id ⟨.ref x :: rest, []⟩) Q E s := by
  simp only [checkBuiltinCall, hk, hs]
  refine wpAny_bind ?_
  unfold isInstance
  refine wpAny_bind (I.type.here ((looks_subIn X hob).here ?_))
  simp only [Bool.not_true, Bool.false_eq_true, if_false]
  cases hsig : Manifest.signature? id with
  | none => exact wpAny_pure hq
  | some sig =>
    simp only [argsOk, hsig] at ha
    have h2 : Bind.checkArgs id sig ⟨.ref x :: rest, []⟩ = pure () := ha
    show wpAny M A (Bind.checkArgs id sig ⟨.ref x :: rest, []⟩) Q E _
    rw [h2]; exact wpAny_pure hq
theorem ne_K {Q : Value → Shared → Prop} (hu : A.units + 1 < cLine) (F : PyProof.Rows.Fr h₀ L s.heap m) (X₀ : K.In h₀) (I : InstAt s.heap x ox C od) (I' : InstAt s.heap y oy C od') (hn : findIn K (.ref C) "__ne__" = some (some (.builtin "object.__ne__"))) (hob : subIn K (.ref C) (.type "object") = some true)
    (hs : findIn K (.ref C) "__eq__" = some (some (.ref f))) (hf : isFn K (.ref f) = true)
    (h : wpAny (model prog w) A.in1 (call (.ref f) [.ref x, .ref y]) (fun v s' => ∃ b, v = .bool b ∧ Q (.bool (!b)) s') E s) : wpAny (model prog w) A (richCompare .NotEq (.ref x) (.ref y)) Q E s := by
  have X := X₀.keeps F.keep
  have body : ∀ {Q' : Fin → Shared → Prop}, wpAny (model prog w) A.in1 (call (.ref f) [.ref x, .ref y]) (fun v s' => ∃ b, v = .bool b ∧ Q' (.done (.ret (.bool (!b)))) s') E s → wpAny (model prog w) A.in1 (Builtin.«object.__ne__» ⟨[.ref x, .ref y], []⟩) Q' E s := by
    intro Q' hc
    have hc2 : wpAny (model prog w) A.in1 (callSpecialIfBound? (.ref x) (Str.ofString "__eq__") [.ref y]) (fun r s' => ∃ b, r = some (.bool b) ∧ Q' (.done (.ret (.bool (!b)))) s') E s := ifBound_K X I hs hf (wpAny_mono hc (fun v s' hv => by obtain ⟨b, rfl, q⟩ := hv; exact ⟨b, rfl, q⟩) fun _ _ e => e)
    unfold Builtin.«object.__ne__»
    repeat (first
      | with_reducible refine wpAny_cRoomFor hu ?_
      | (refine wpAny_bind (m := callSpecialIfBound? (.ref x) (Str.ofString "__eq__") [.ref y])
          (wpAny_mono hc2 (fun r s' hr => by
            obtain ⟨b, rfl, hq⟩ := hr
            repeat (first | exact hq | exact wpAny_pure hq | exact wpAny_truthy_bool hq | (refine wpAny_bind (m := truthy (.bool _)) (wpAny_truthy_bool ?_)) | wp_step)) fun _ _ e => e))
      | wp_step)
  have one : wpAny (model prog w) A (tryCompare (.ref x) "__ne__" (.ref y)) (fun r s' => ∃ b, r = some (.bool (!b)) ∧ Q (.bool (!b)) s') E s := by
    unfold tryCompare
    refine wpAny_bind (ifBound_B X I hn PySem.F.cmp_object.ne (wpAny_call (codeAny_call_builtin PySem.F.cmp_object.ne.plain PySem.F.cmpEntry_ne (check_slotK X I PySem.F.cmpKind_ne PySem.F.cmpSplit_ne (PySem.F.cmpArgs_ne _ _) hob
      (body (wpAny_mono h (fun v s' hv => ?_) fun _ _ e => e))))))
    obtain ⟨b, rfl, hq⟩ := hv
    first | exact ⟨b, rfl, wpAny_pure ⟨b, rfl, hq⟩⟩ | exact ⟨b, rfl, wpAny_pure (wpAny_pure ⟨b, rfl, hq⟩)⟩
  unfold richCompare
  simp only [oneThing_ref]
  refine wpAny_holding (wpAny_bind (wpAny_cRoomFor (Nat.lt_of_succ_lt hu) ?_))
  rw [cmpInfo_NotEq]
  dsimp only
  refine wpAny_bind (I.type.here (wpAny_bind (I'.type.here ?_)))
  rw [show (Value.ref C != Value.ref C) = false from by simp]
  simp only [Bool.false_eq_true, if_false]
  refine wpAny_bind (wpAny_pure ?_)
  simp only [Bool.false_eq_true, if_false]
  refine wpAny_bind (wpAny_mono one (fun r s' z => ?_) fun _ _ e => e)
  obtain ⟨b, rfl, hq⟩ := z
  exact wpAny_pure hq
end
end PySem.W
namespace L2
open PySem PySem.Spec PyProof.Rows
section
variable {X : Cx} {n : Nat} {CX : CXT} {C f : Addr} {fd : FuncData} {ps : List Str} {sp : Sp} {E : XK}
/-- two instances of the class at C, and what the own == gives of them -/
def rEqI (C : Addr) (sp : Sp) (E : XK) (g : Bool → Bool) : R2 := fun x y H Q => ∃ a b dx dy fs gs, x = .ref a ∧ y = .ref b ∧ H a = some (.ins C dx fs) ∧ H b = some (.ins C dy gs) ∧ sp [.ref a, .ref b] H (fun v H' => ∃ r : Bool, v = .bl r ∧ Q (.bl (g r)) H') E
theorem op_eqI (F : FnOk X.prog X.w X.K X.mg X.base CX n f fd ps sp) (hs : PySem.W.findIn X.K (.ref C) "__eq__" = some (some (.ref f))) (hf : PySem.W.isFn X.K (.ref f) = true) (hb : Binds X.K fd ps []) (hx : Passes CX X E) (hr : Room n X.A) : OpR X (compareOp .Eq) (rEqI C sp E id) := by
  intro pins s σ H x y u v Q I rx ry hq
  obtain ⟨a, b, dx, dy, fs, gs, rfl, rfl, ha, hb', hsp⟩ := hq
  cases rx
  cases ry
  obtain ⟨mA, J, _⟩ := ins_get I.hok ha
  obtain ⟨mB, J', _⟩ := ins_get I.hok hb'
  obtain ⟨od, J, _⟩ := J.look
  obtain ⟨od', J', _⟩ := J'.look
  obtain ⟨m, hF⟩ := I.fr
  show wpAny (model X.prog X.w) X.A (richCompare .Eq (.ref a) (.ref b)) (EP X pins σ Q) X.xe s
  refine PySem.W.cmp_K (op := .Eq) (tb := .ref C) hr.units0 hF I.ok.mod.kin J J'.type (by simp [PySem.W.notFirst]) hs hf ?_
  have hl := F.len _ _ _ _ hsp
  have r2 : Vals [V.ref a, V.ref b] [Value.ref a, Value.ref b] := .cons rfl (.cons rfl .nil)
  refine wpAny_call (codeAny_mono (F.run X.A X.stack s H ⟨[.ref a, .ref b], []⟩ [.ref a, .ref b] [.ref a, .ref b] _ E hr I.env0 (by
    have := hb s [.ref a, .ref b] I.kIn (by simpa using hl)
    simpa using this) r2 hsp) fun r s' hq => ?_)
  cases r with
  | error e => exact hx pins σ H s e s' I hq
  | ok fl =>
    cases fl with
    | ret w =>
      obtain ⟨z, H', I', rz, r, ez, ex⟩ := I.after hq
      subst ez
      cases rz
      exact ⟨.bl r, H', I', rfl, ex⟩
    | next => exact False.elim hq
    | brk => exact False.elim hq
    | cont => exact False.elim hq
theorem op_neI (F : FnOk X.prog X.w X.K X.mg X.base CX n f fd ps sp) (hs : PySem.W.findIn X.K (.ref C) "__eq__" = some (some (.ref f))) (hf : PySem.W.isFn X.K (.ref f) = true) (hn : PySem.W.findIn X.K (.ref C) "__ne__" = some (some (.builtin "object.__ne__"))) (hob : PySem.W.subIn X.K (.ref C) (.type "object") = some true)
    (hb : Binds X.K fd ps []) (hx : Passes CX X E) (hr : Room (n + 1) X.A) : OpR X (compareOp .NotEq) (rEqI C sp E not) := by
  intro pins s σ H x y u v Q I rx ry hq
  obtain ⟨a, b, dx, dy, fs, gs, rfl, rfl, ha, hb', hsp⟩ := hq
  cases rx
  cases ry
  obtain ⟨mA, J, _⟩ := ins_get I.hok ha
  obtain ⟨mB, J', _⟩ := ins_get I.hok hb'
  obtain ⟨od, J, _⟩ := J.look
  obtain ⟨od', J', _⟩ := J'.look
  obtain ⟨m, hF⟩ := I.fr
  show wpAny (model X.prog X.w) X.A (richCompare .NotEq (.ref a) (.ref b)) (EP X pins σ Q) X.xe s
  refine PySem.W.ne_K hr.in1.units0 hF I.ok.mod.kin J J' hn hob hs hf ?_
  have e0 : Env0 X.prog X.w X.K X.mg X.base X.A.in1 X.stack s H := by
    have e := I.env0
    exact ⟨e.frames, e.mod, e.bs, e.bsz, e.funs, e.frf, e.hok, e.bare⟩
  have hl := F.len _ _ _ _ hsp
  have r2 : Vals [V.ref a, V.ref b] [Value.ref a, Value.ref b] := .cons rfl (.cons rfl .nil)
  refine wpAny_call (codeAny_mono (F.run X.A.in1 X.stack s H ⟨[.ref a, .ref b], []⟩ [.ref a, .ref b] [.ref a, .ref b] _ E hr.in1 e0 (by
    have := hb s [.ref a, .ref b] I.kIn (by simpa using hl)
    simpa using this) r2 hsp) fun r s' hq => ?_)
  cases r with
  | error e => exact hx pins σ H s e s' I hq
  | ok fl =>
    cases fl with
    | ret w =>
      obtain ⟨z, H', I', rz, r, ez, ex⟩ := I.after hq
      subst ez
      cases rz
      exact ⟨r, rfl, .bl (!r), H', I', rfl, ex⟩
    | next => exact False.elim hq
    | brk => exact False.elim hq
    | cont => exact False.elim hq
end
end L2
/-! Lists of ints, places, rows and rows of rows as data: compared with either answer. -/
namespace L2.FQ
open PySem PySem.Spec PyProof.Rows L2.FL L2.FK
def plD (p : Pl) : PyData := .tuple [.int p.1, .int p.2]
def rowD (r : List Pl) : PyData := .list (r.map plD)
def rowsD (r : List (List Pl)) : PyData := .list (r.map rowD)
def intsD (r : List Int) : PyData := .list (r.map PyData.int)
section
variable {K : PySem.W.Frag} {H : Hp}
theorem dp_pls : ∀ {vs : List V} {row : List Pl}, Paired (PlAt H) vs row → DpAll K H vs (row.map plD)
  | _, _, .nil => .nil
  | _, _, .cons r t => .cons (dp_pl r) (dp_pls t)
theorem dp_row {v : V} {row : List Pl} (h : RowAt H v row) : Dp K H v (rowD row) := by
  obtain ⟨a, vs, rfl, ha, hp⟩ := h
  exact .lst (SqL.of ha) (dp_pls hp)
theorem dp_rs : ∀ {vs : List V} {rows : List (List Pl)}, Paired (RowAt H) vs rows → DpAll K H vs (rows.map rowD)
  | _, _, .nil => .nil
  | _, _, .cons r t => .cons (dp_row r) (dp_rs t)
theorem dp_rows {v : V} {rows : List (List Pl)} (h : RowsAt H v rows) : Dp K H v (rowsD rows) := by
  obtain ⟨a, vs, rfl, ha, hp⟩ := h
  exact .lst (SqL.of ha) (dp_rs hp)
theorem dp_is : ∀ ds : List Int, DpAll K H (ds.map V.int) (ds.map PyData.int)
  | [] => .nil
  | d :: ds => .cons (.int d) (dp_is ds)
theorem dp_ints {a : Addr} {ds : List Int} (h : H a = some (.lst (ds.map V.int))) : Dp K H (.ref a) (intsD ds) := .lst (SqL.of h) (dp_is ds)
end
theorem eqv_p (a b : Pl) : PyData.eqv (plD a) (plD b) = decide (a = b) := eqv_pl a b
theorem eqvAll_of {α : Type} [DecidableEq α] {f : α → PyData} (h : ∀ a b, PyData.eqv (f a) (f b) = decide (a = b)) : ∀ r q : List α, PyData.eqvAll (r.map f) (q.map f) = decide (r = q)
  | [], [] => by simp [PyData.eqvAll]
  | [], _ :: _ => by simp [PyData.eqvAll]
  | _ :: _, [] => by simp [PyData.eqvAll]
  | a :: r, b :: q => by
    simp only [List.map_cons, PyData.eqvAll, eqvAll_of h r q, h a b]
    by_cases h1 : a = b <;> by_cases h2 : r = q <;> simp [h1, h2]
theorem eqv_row (r q : List Pl) : PyData.eqv (rowD r) (rowD q) = decide (r = q) := by unfold rowD; rw [PyData.eqv]; exact eqvAll_of eqv_p r q
theorem eqv_rows (r q : List (List Pl)) : PyData.eqv (rowsD r) (rowsD q) = decide (r = q) := by unfold rowsD; rw [PyData.eqv]; exact eqvAll_of eqv_row r q
theorem eqv_int (a b : Int) : PyData.eqv (.int a) (.int b) = decide (a = b) := by
  simp only [PyData.eqv]
  by_cases h : a = b <;> simp [h]
theorem eqv_ints (r q : List Int) : PyData.eqv (intsD r) (intsD q) = decide (r = q) := by unfold intsD; rw [PyData.eqv]; exact eqvAll_of eqv_int r q
theorem lay_of {α : Type} {f : α → PyData} (h : ∀ a, PyData.canLay0 (f a) = true) : ∀ r : List α, PyData.canLayAll0 (r.map f) = true
  | [] => rfl
  | a :: r => by simp only [List.map_cons, PyData.canLayAll0, h a, lay_of h r, Bool.and_self]
theorem depth_of {α : Type} {f : α → PyData} {n : Nat} (h : ∀ a, (f a).depth ≤ n) : ∀ r : List α, PyData.depthAll (r.map f) ≤ n
  | [] => by show (0 : Nat) ≤ n; omega
  | a :: r => by
    have h1 := h a
    have h2 := depth_of h r
    simp only [List.map_cons, PyData.depthAll]
    omega
theorem lay_p (p : Pl) : PyData.canLay0 (plD p) = true := rfl
theorem lay_row (r : List Pl) : PyData.canLay0 (rowD r) = true := by unfold rowD; simp only [PyData.canLay0]; exact lay_of lay_p r
theorem lay_rows (r : List (List Pl)) : PyData.canLay0 (rowsD r) = true := by unfold rowsD; simp only [PyData.canLay0]; exact lay_of lay_row r
theorem lay_ints (r : List Int) : PyData.canLay0 (intsD r) = true := by unfold intsD; simp only [PyData.canLay0]; exact lay_of (fun _ => rfl) r
theorem depth_p (p : Pl) : (plD p).depth ≤ 3 := by show PyData.depth (.tuple [.int p.1, .int p.2]) ≤ 3; simp [PyData.depth, PyData.depthAll]
theorem depth_row (r : List Pl) : (rowD r).depth ≤ 4 := by have := depth_of depth_p r; unfold rowD; simp only [PyData.depth]; omega
theorem depth_rows (r : List (List Pl)) : (rowsD r).depth ≤ 5 := by have := depth_of depth_row r; unfold rowsD; simp only [PyData.depth]; omega
theorem depth_ints (r : List Int) : (intsD r).depth ≤ 3 := by have := depth_of (f := PyData.int) (n := 2) (fun a => by simp [PyData.depth]) r; unfold intsD; simp only [PyData.depth]; omega
theorem shaped_of {d : PyData} {n : Nat} (h1 : PyData.canLay0 d = true) (h2 : d.depth ≤ n) (h3 : n ≤ 64) : SeqAt.shaped d = true := by
  unfold SeqAt.shaped
  rw [h1, decide_eq_true (Nat.le_trans h2 h3)]; rfl
theorem shaped_row (r : List Pl) : SeqAt.shaped (rowD r) = true := shaped_of (lay_row r) (depth_row r) (by decide)
theorem shaped_rows (r : List (List Pl)) : SeqAt.shaped (rowsD r) = true := shaped_of (lay_rows r) (depth_rows r) (by decide)
theorem shaped_ints (r : List Int) : SeqAt.shaped (intsD r) = true := shaped_of (lay_ints r) (depth_ints r) (by decide)
end L2.FQ
/-! == and != of maps, with either answer. -/
namespace L2.FK
open PySem PySem.Spec PyProof.Rows L2.FL FlT
section
variable {P : Program} {w : World} {K : PySem.W.Frag} {mg : Str → Option Value} {base : Heap} {C : Addr}
theorem sc_eqB : FnScope ["self", "other"] ["self", "other"] (C8.fnScope (inClass sMap 7)) := C8.fnScope_by (by decide +kernel)
def spEqB (C : Addr) : Sp := fun vs H Q _ => ∃ (a b : Addr) (ds es : List Int) (T U : List (List Pl)), vs = [.ref a, .ref b] ∧ LMap C H (.ref a) ds T ∧ LMap C H (.ref b) es U ∧ Q (.bl (decide (ds = es ∧ T = U))) H
theorem ok_eqB (X : Tx K mg C) (B : Bl mg) (IC : C8.InsC K C) {f : Addr} {fd : FuncData} (F : C8.Fun K "__eq__" "LaneMap.__eq__" (inClass sMap 7) f fd) : FnOk P w K mg base C8.CX0 5 f fd ["self", "other"] (spEqB C) := by
  refine C8.fn0 F sc_eqB (fun vs H Q E z => ?_) (fun cdv A outer s H vs Q E hr z => ?_)
  · obtain ⟨a, b, ds, es, T, U, rfl, _⟩ := z; rfl
  obtain ⟨a, b, ds, es, T, U, rfl, h1, h2, q⟩ := z
  obtain ⟨p, dx, a1, v2, a3, a4, im, og, e, g1, g2, g3, _⟩ := h1
  cases e
  obtain ⟨p', dx', a1', v2', a3', a4', im', og', e, g1', g2', g3', _⟩ := h2
  cases e
  refine ⟨_, pss_one (ps_ret (pe_and (pe_callB (C8.call_isC IC) (by rfl) B.isinstance bt_isinstance (pa_cons (pv 1) (pa_cons (pe_glob (v := .ref C) rfl X.mgC rfl) pa_nil)))
    (pe_and (pe_cmpR (op_eqD hr.units) (pe_fld (pv 0) rfl) (pe_fld (pv 1) rfl) (nomark _))
      (pe_one (pe_cmpR (op_eqD hr.units) (pe_fld (pv 0) rfl) (pe_fld (pv 1) rfl) (nomark _)))))), ?_⟩
  refine ⟨_, rfl, b, dx', _, rfl, g1', _, rfl, iteT ?_⟩
  refine ⟨_, rfl, a, C, dx, _, _, rfl, g1, X.cl, X.nS, fl_shifts _ _ _ _, _, rfl, b, C, dx', _, _, rfl, g1', X.cl, X.nS, fl_shifts _ _ _ _, FQ.intsD ds, FQ.intsD es, FQ.dp_ints g2, FQ.dp_ints g2', FQ.shaped_ints _, FQ.shaped_ints _, _, rfl, ?_⟩
  rw [FQ.eqv_ints]
  by_cases c : ds = es
  · rw [decide_eq_true c]
    refine iteT ⟨_, rfl, a, C, dx, _, _, rfl, g1, X.cl, X.nR, fl_rows _ _ _ _, _, rfl, b, C, dx', _, _, rfl, g1', X.cl, X.nR, fl_rows _ _ _ _, FQ.rowsD T, FQ.rowsD U, FQ.dp_rows g3, FQ.dp_rows g3', FQ.shaped_rows _, FQ.shaped_rows _, ?_⟩
    rw [FQ.eqv_rows]
    rw [show decide (ds = es ∧ T = U) = decide (T = U) by simp [c]] at q
    exact q
  · rw [decide_eq_false c]
    rw [show decide (ds = es ∧ T = U) = false by simp [c]] at q
    exact iteF q
/-- the comparison of two maps -/
theorem eqI_maps {H : Hp} {Q : VK} {g : Bool → Bool} {E : XK} {v u : V} {ds es : List Int} {T U : List (List Pl)} (h1 : LMap C H v ds T) (h2 : LMap C H u es U) (q : Q (.bl (g (decide (ds = es ∧ T = U)))) H) : rEqI C (spEqB C) E g v u H Q := by
  obtain ⟨p, dx, a1, v2, a3, a4, im, og, rfl, g1, _⟩ := id h1
  obtain ⟨p', dx', a1', v2', a3', a4', im', og', rfl, g1', _⟩ := id h2
  exact ⟨p, p', dx, dx', _, _, rfl, rfl, g1, g1', p, p', ds, es, T, U, rfl, h1, h2, _, rfl, q⟩
end
end L2.FK
/-! _law_goal, _law_of. -/
namespace L2.FK
open PySem PySem.Spec PyProof.Rows L2.FL FlT
section
variable {P : Program} {w : World} {K : PySem.W.Frag} {mg : Str → Option Value} {base : Heap}
def spOf : Sp := fun vs H Q _ => ∃ (b sa l : Addr) (xs : List V), vs = [.ref b, .ref l] ∧ BagAt H b sa ∧ l ≠ b ∧ H l = some (.lst xs) ∧ 0 < xs.length ∧ xs.length ≤ 3000 ∧ ∀ (i : Nat) (x : V) H', xs[i]? = some x → Same (del b H) (del b H') → BagAt H' b sa → Q x H'
theorem sc_of : FnScope ["_law_bag_here", "_law_some"] ["_law_bag_here", "_law_some"] (C8.fnScope sOf) := C8.fnScope_by (by decide +kernel)
theorem ok_of (h : Has K mg "_law_of" sOf ["_law_bag_here", "_law_some"]) (B : Bl mg) (c : C8.Cal P w K mg base 1 "_law_pull" spPull []) : C8.Cal P w K mg base 2 "_law_of" spOf [] := by
  refine cal_of h sc_of (fun vs H Q E z => ?_) (fun f cdv A outer s H vs Q E hr z => ?_)
  · obtain ⟨b, sa, l, xs, rfl, _⟩ := z; rfl
  obtain ⟨b, sa, l, xs, rfl, hb, nl, hl, h0, h1, q⟩ := z
  refine ⟨_, pss_one (ps_ret (pe_ix ix_list (pv 1) (C8.pe_c c hr (by decide) rfl (pa_cons (pv 0) (pa_cons (pe_callB call_len_seq (by rfl) B.len bt_len (pa_cons (pv 1) pa_nil)) pa_nil))) (fun _ _ => rfl))), ?_⟩
  refine ⟨_, rfl, _, rfl, _, rfl, l, xs, rfl, .inl (SqL.of hl), b, sa, _, rfl, hb, by omega, by omega, fun r H' r0 r1 s' hb' => ?_⟩
  have g : H' l = some (.lst xs) := del_same _ _ (s' _ _ (by rw [del_ne nl]; exact hl))
  obtain ⟨n, rfl⟩ : ∃ n : Nat, r = (n : Int) := ⟨r.toNat, by omega⟩
  have hn : n < xs.length := by omega
  exact ⟨l, xs, _, xs[n], rfl, rfl, SqL.of g, atI_nat (List.getElem?_eq_getElem hn), q n _ H' (List.getElem?_eq_getElem hn) s' hb'⟩
end
end L2.FK
/-! The law's drawn places: _law_far, _law_some_place, _law_bad_place. -/
namespace L2.FK
open PySem PySem.Spec PyProof.Rows L2.FL FlT
section
variable {P : Program} {w : World} {K : PySem.W.Frag} {mg : Str → Option Value} {base : Heap}
end
end L2.FK
/-! More of the heap is fixed while a call runs; a lambda with one parameter as a function of its own over such a heap. -/
namespace FlT
open PySem PySem.Spec PyProof.Rows L2 LamX

theorem base_up {P : Program} {w : World} {K : PySem.W.Frag} {mg : Str → Option Value} {base : Heap} {A : Around} {outer : List Env} {s : Shared} {H : Hp} (e : Env0 P w K mg base A outer s H) (L : List Addr) (hH : ∀ b ∈ L, H b = none) (hf : ∀ b ∈ L, b ∉ frs outer) :
    ∃ base', Env0 P w K mg base' A outer s H ∧ ∀ b ∈ L, ∀ o, s.heap.get? b = some o → base'.get? b = some o := by
  let G : Hp := fun b => if (base.get? b).isSome = true ∨ b ∈ L then none else some (.own 0)
  have up : ∀ b o, base.get? b = some o → (hidT s.heap G).get? b = some o := fun b o q => hidT_get (e.bs b o q).1 (if_pos (.inl (by rw [q]; rfl)))
  have gone : ∀ b, base.get? b = none → b ∉ L → (hidT s.heap G).get? b = none := fun b q n => by
    cases z : (hidT s.heap G).get? b with
    | none => rfl
    | some o =>
      have q2 := (of_hidT z).2
      rw [show G b = some (.own 0) from if_neg (by rw [q]; exact fun y => y.elim (fun z => Bool.noConfusion z) n)] at q2
      cases q2
  have funs : ∀ l : List Env, s.heap.FunFrames base l → (∀ b ∈ frs l, b ∉ L) → s.heap.FunFrames (hidT s.heap G) l := by
    intro l
    induction l with
    | nil => exact fun _ _ => trivial
    | cons v r ih =>
      intro h n
      obtain ⟨h1, ⟨F, o, h2, h3, h4, h5⟩, h6⟩ := h
      have sub : ∀ b ∈ frs r, b ∈ frs (v :: r) := fun b hb => by
        unfold frs at hb ⊢
        rw [List.filterMap_cons, h2]
        exact List.mem_cons_of_mem _ hb
      have hF : F ∈ frs (v :: r) := by
        unfold frs
        rw [List.filterMap_cons, h2]
        exact List.mem_cons_self
      exact ⟨h1, ⟨F, o, h2, gone F h3 (n F hF), h4, h5⟩, ih h6 fun b hb => n b (sub b hb)⟩
  refine ⟨hidT s.heap G, ⟨e.frames, ⟨e.mod.kin.keeps up, e.mod.glob.keeps up, ?_, e.mod.nolimit.keeps up⟩, fun b o q => ?_, Nat.le_of_eq (hidT_size _ _), funs outer e.funs fun b hb z => hf b z hb, e.frf, e.hok, e.bare⟩, fun b hb o q => hidT_get q (if_pos (.inr hb))⟩
  · obtain ⟨mb, h1, h2⟩ := e.mod.blt
    exact ⟨mb, h1.keeps up, h2⟩
  · obtain ⟨q1, q2⟩ := of_hidT q
    refine ⟨q1, ?_⟩
    by_cases c : (base.get? b).isSome = true ∨ b ∈ L
    · rcases c with c | c
      · obtain ⟨o', c⟩ := Option.isSome_iff_exists.mp c
        exact (e.bs b o' c).2
      · exact hH b c
    · rw [show G b = some (.own 0) from if_neg c] at q2
      cases q2

/-- the names of a lambda with the one parameter p: captured ones of Nf, globals -/
structure LamP (sc scope : Scope) (p : Str) : Prop where
  kind : scope.kind = .function
  co : scope.isCoroutine = false
  gen : scope.isGenerator = false
  par : scope.names.lookup p = some .local
  noc : ∀ y ∈ scope.names, y.2 ≠ .cell
  free : ∀ y ∈ scope.names, y.2 = .free → sc.names.lookup y.1 = some .cell ∨ sc.names.lookup y.1 = some .free
def lamPB (sc scope : Scope) (p : Str) : Bool :=
  decide (scope.kind = .function) && (!scope.isCoroutine && (!scope.isGenerator && (decide (scope.names.lookup p = some .local) && scope.names.all fun y =>
    !decide (y.2 = .cell) && (!decide (y.2 = .free) || (decide (sc.names.lookup y.1 = some .cell) || decide (sc.names.lookup y.1 = some .free))))))
theorem lamP_by {sc scope : Scope} {p : Str} (h : lamPB sc scope p = true) : LamP sc scope p := by
  unfold lamPB at h
  simp only [Bool.and_eq_true, Bool.or_eq_true, Bool.not_eq_true', decide_eq_true_eq, decide_eq_false_iff_not, List.all_eq_true] at h
  obtain ⟨a, b, c, d, e⟩ := h
  exact ⟨a, b, c, d, fun y hy => (e y hy).1, fun y hy z => (e y hy).2.resolve_left (fun q => q z)⟩

/-- the context of such a lambda's body, nothing leaves it -/
def lamC (P : Program) (w : World) (K : PySem.W.Frag) (mg : Str → Option Value) (base : Heap) (A : Around) (outer : List Env) (s : Shared) (H : Hp) (N : List Str) (q : Str) (scope : Scope) (f c' : Addr) (cl : List (Str × Addr)) : Cx where
  prog := P
  w := w
  K := K
  mg := mg
  base := base
  A := A.deeper (PySem.W.envX q scope s.heap.objs.size f (.ref c') cl)
  N := N
  s_0 := s
  H_0 := H
  env := PySem.W.envX q scope s.heap.objs.size f (.ref c') cl
  outer := outer
  stack := PySem.W.envX q scope s.heap.objs.size f (.ref c') cl :: outer
  ex := []
  fn := fun _ => false
  calm := true
  pn := []
  xe := fun _ _ => False

/-- what the lambda's cells hold, in the fixed heap -/
structure Caps (base : Heap) (scope : Scope) (cl : List (Str × Addr)) (Nf : List Str) (xs : List V) : Prop where
  len : xs.length = Nf.length
  inj : ∀ y z c, cl.lookup y = some c → cl.lookup z = some c → y = z
  has : ∀ y, scope.names.lookup y = some .free → ∃ c, cl.lookup y = some c
  cell : ∀ y c, cl.lookup y = some c → ∃ v, base.IsCell c v
  at_ : ∀ (i : Nat) y x, Nf[i]? = some y → xs[i]? = some x → scope.names.lookup y = some .free ∧ ∃ c u, cl.lookup y = some c ∧ base.IsCell c (some u) ∧ RelV x u

section
variable {P : Program} {w : World} {K : PySem.W.Frag} {mg : Str → Option Value} {base : Heap} {A : Around} {outer : List Env} {s : Shared} {H : Hp} {q p : Str} {scope sc : Scope} {f c' : Addr} {cl : List (Str × Addr)} {Nf : List Str} {xs : List V}
theorem cells_of (e0 : ∀ b o, base.get? b = some o → s.heap.get? b = some o ∧ H b = none) {h₁ : Heap} (kp : ∀ b o, s.heap.get? b = some o → h₁.get? b = some o) {c : Addr} {v : Option Value} (z : base.IsCell c v) : h₁.IsCell c v ∧ H c = none := by
  obtain ⟨o, ho, hd⟩ := z
  exact ⟨⟨o, kp _ _ (e0 c o ho).1, hd⟩, (e0 c o ho).2⟩
theorem lam_start1 {h₁ : Heap} {tk : Nat} {u : Value} {v : V} (L : LamP sc scope p) (C : Caps base scope cl Nf xs) (pN : p ∉ Nf) (e0 : Env0 P w K mg base A outer s H) (calm : A.handled = none) (rv : RelV v u)
    (hns : h₁.Ns s.heap.objs.size fun y => [(p, u)].reverse.lookup y) (kp : ∀ b o, s.heap.get? b = some o → h₁.get? b = some o) :
    Inv (lamC P w K mg base A outer s H (p :: Nf) q scope f c' cl) [] (some v :: xs.map some) H { s with heap := h₁, toks := tk } := by
  have noX : ∀ b : Addr, b ∉ (lamC P w K mg base A outer s H (p :: Nf) q scope f c' cl).ex := fun b z => absurd (show b ∈ ([] : List Addr) from z) (by simp)
  refine ⟨⟨e0.mod, L.kind, rfl, rfl, Nat.le_refl _, C.inj, fun y hy => ?_, fun y c z _ => Bool.noConfusion (show false = true from z), fun _ => calm, Around.frames_deeper e0.frames, .inr ⟨rfl, rfl⟩, fun b z => absurd z (noX b), e0.bs, e0.bsz, fun b _ _ => noX b,
      fun b z => absurd z (noX b), e0.funs, e0.frf⟩,
    rfl, e0.bare, Un.kept kp, ⟨_, hns, fun i y x e1 e2 e3 => ?_⟩, fun y c e => ?_, e0.hok.fresh (Nat.le_refl _), fun y c e => ?_, fun q hq => absurd (show q ∈ ([] : List (Addr × Obj)) ++ [] from hq) (by simp), e0.hok.kept kp, ?_⟩
  · rcases (show scope.names.lookup y = some .cell ∨ scope.names.lookup y = some .free from hy) with k | k
    · exact absurd rfl (L.noc _ (PySem.mem_of_lookup k))
    · exact C.has y k
  · cases i with
    | zero =>
      have e1 : some p = some y := e1
      have e2 : some (some v) = some (some x) := e2
      cases e1
      cases e2
      refine ⟨u, rv, .inl ⟨L.par, ?_⟩⟩
      show [(p, u)].lookup p = some u
      rw [List.lookup_cons, beq_self_eq_true]
    | succ j =>
      have e1 : Nf[j]? = some y := e1
      have e2 : (xs.map some)[j]? = some (some x) := e2
      rw [List.getElem?_map] at e2
      cases z : xs[j]? with
      | none => rw [z] at e2; cases e2
      | some x' =>
        rw [z] at e2
        cases e2
        obtain ⟨k, c, u', h1, h2, h3⟩ := C.at_ j y x e1 z
        exact ⟨u', h3, .inr ⟨.inr k, c, h1, (cells_of e0.bs kp h2).1⟩⟩
  · obtain ⟨v', z⟩ := C.cell y c e
    exact ⟨v', (cells_of e0.bs kp z).1⟩
  · obtain ⟨v', z⟩ := C.cell y c e
    exact (cells_of e0.bs kp z).2
  · show (some v :: xs.map some).length = (p :: Nf).length
    rw [List.length_cons, List.length_cons, List.length_map, C.len]

/-- the lambda at f as a function -/
theorem lam_ok {k : Nat} {params : Arguments} {body : Expr} {doc pm ctv : Value} {tb : TE} (L : LamP sc scope p) (C : Caps base scope cl Nf xs) (pN : p ∉ Nf)
    (hf : base.get? f = some { cls := .type "function", data := .func (lamF q params body scope cl .none doc pm c' ctv) })
    (hbody : ∀ (A : Around) (outer : List Env) (s : Shared) (H : Hp), Room k (A.deeper (PySem.W.envX q scope s.heap.objs.size f (.ref c') cl)) → PE (lamC P w K mg base A outer s H (p :: Nf) q scope f c' cl) body tb) :
    FnOk P w K mg base C8.CX0 (k + 1) f (lamF q params body scope cl .none doc pm c' ctv) [p] (fun vs H Q _ => ∃ v, vs = [v] ∧ H c' = some (CodeO c' q) ∧ tb (some v :: xs.map some) H Q) where
  len := fun vs H Q E z => by obtain ⟨v, rfl, _⟩ := z; rfl
  run := fun A outer s H args us vs Q E room e0 hb r wish => by
    obtain ⟨v, rfl, code, wish⟩ := wish
    match us, r with
    | [u], .cons rv .nil =>
      obtain ⟨⟨oc, ws, t, hoc, hdc, hvc⟩, _, _⟩ := e0.hok c' _ code
      refine PySem.W.kla_callFunE room.depth (e0.bs _ _ hf).1 rfl L.co L.gen rfl ⟨c', oc, ws, t, rfl, hoc, hdc, hvc⟩ (hb _ _ _ _ ?_)
      have lim : s.heap.NoLimit := e0.mod.nolimit.keeps fun b o z => (e0.bs b o z).1
      refine wpAny_newFunctionEnv L.noc (fun y hy => ?_) (fun h₁ hns hsb => ⟨lim.fresh _ hsb, ?_⟩) L.kind
      · rw [List.mem_singleton.mp hy]; exact L.par
      show codeAny _ _ (.expr body (PySem.W.envX q scope s.heap.objs.size f (.ref c') cl)) _ _
      have kp : ∀ b o, s.heap.get? b = some o → h₁.get? b = some o := fun b o e => hsb.extBut b o (Nat.ne_of_lt (Heap.lt_size e)) (Heap.get?_push_of_some _ e)
      have J := lam_start1 (q := q) (f := f) (c' := c') (tk := s.toks + [(p, u)].length) L C pN e0 room.hd rv hns kp
      refine PySem.W.kla_codeExpr (wpAny_mono ((hbody A outer s H (room.deeper _)).run [] _ _ H Q J wish) (fun v2 t2 ⟨w', H', J', rv', q'⟩ => ?_) fun e t2 z => z.elim)
      exact ⟨w', H', J'.os, J'.bare, J'.base, J'.hok, rv', q'⟩
end

/-- the reading of such a call -/
def tFn (i : Nat) (f : Addr) (sp : Sp) (te : TA) : TE := fun σ H Q => σ[i]? = some (some (.ref f)) ∧ te σ H fun vs H1 => sp vs H1 Q C8.E0
/-- a local name that holds a function of one parameter, called -/
theorem pe_fn {Y : Cx} {k j i : Nat} {f : Addr} {fd : FuncData} {a p : Str} {sp : Sp} {e : Expr} {te : TA} {p1 p2 : Pos} {oc : Value} {od : Option Addr} {sl : Array (Option Value)} (F : FnOk Y.prog Y.w Y.K Y.mg Y.base C8.CX0 k f fd [p] sp) (hf : Y.base.get? f = some ⟨oc, od, .func fd, sl⟩)
    (bind : ∀ u, bindArgs fd ⟨[u], []⟩ = pure [(p, u)]) (room : Room j Y.A) (hk : k ≤ j) (hN : Y.N[i]? = some a) (hv : Vis Y.env.scope a) (ha : PA Y [e] te)
    (hd : (a == ("__debug__" : Str)) = false := by decide) (hcd : (a == ("__classdict__" : Str)) = false := by decide) (he : starEach [e] Y.env = (false, eval e Y.env) :: starEach [] Y.env := by rfl) (hpl : (backTo p2 (starEach [] Y.env)).any (·.1) = false := by rfl) :
    PE Y (.Call (.Name a p1) [e] [] p2) (tFn i f sp te) := by
  refine ⟨fun pins s σ H Q I ⟨slot, wish⟩ => ?_⟩
  refine wpAny_Call_Name_kw (thn ((pe_var (pos := p1) (i := i) hN hv hd hcd).run pins s σ H (fun v H1 => v = .ref f ∧ H1 = H) I ⟨.ref f, slot, rfl, rfl⟩) fun u t1 ⟨v, H1, I1, r1, ev, eH⟩ => ?_)
  subst ev
  rw [eH] at I1
  obtain rfl : u = Value.ref f := r1
  refine PySem.W.callWith_F ⟨_, _, _, _, (I1.bs _ _ hf).1⟩ (thn (ha.run p2 pins t1 σ H _ I1 wish) fun us t2 ⟨vs, H2, I2, rv, q⟩ => ⟨⟨_, _, _, _, (I2.bs _ _ hf).1⟩, ?_⟩) he hpl
  obtain ⟨u, v, rfl, rfl, rv⟩ : ∃ u v, us = [u] ∧ vs = [v] ∧ Vals [v] [u] := by
    have l1 := F.len _ _ _ _ q
    cases rv with
    | nil => cases l1
    | cons r t => cases t with
      | nil => exact ⟨_, _, rfl, rfl, .cons r .nil⟩
      | cons _ _ => cases l1
  refine wpAny_call (codeAny_mono (F.run Y.A Y.stack t2 H2 ⟨[u], []⟩ [u] [v] Q C8.E0 (room.mono hk) I2.env0 (BindsTo.of_eq (bind u)) rv q) fun r t3 z => ?_)
  match r, z with
  | .error e, z => exact z.elim
  | .ok (.ret u), z => exact I2.after z
  | .ok .next, z => exact z.elim
  | .ok .brk, z => exact z.elim
  | .ok .cont, z => exact z.elim
end FlT
/-! x(e1, e2, lambda p: body): the def x calls the lambda where it likes (in its comprehensions, too). -/
namespace FlT
open PySem PySem.Spec PyProof.Rows L2 LamX
/-- what the lambda promises: xs, what it has captured -/
def spL (tb : TE) (c' : Addr) (q : Str) (xs : List V) : Sp := fun vs H Q _ => ∃ v, vs = [v] ∧ H c' = some (CodeO c' q) ∧ tb (some v :: xs.map some) H Q
section
variable {X : Cx} {pins : List (Addr × Obj)} {σ : L2.St} {H : Hp} {s : Shared}
theorem clo_up {scope sc : Scope} {pn : Str} (ok : X.Ok) (L : LamP X.env.scope scope pn) {y : Str} {c : Addr} (e : (y, c) ∈ cloFrom X.env.cells scope.names []) : X.env.cells.lookup y = some c := by
  rcases cloFrom_mem e with z | ⟨z1, z2⟩
  · cases z
  · obtain ⟨c1, hc⟩ : ∃ c, X.env.cells.lookup y = some c := (L.free _ z1 rfl).elim (fun k => ok.has _ (.inl k)) fun k => ok.has _ (.inr k)
    have e2 : c = c1 := by
      rw [z2, hc] <;> rfl
    exact e2 ▸ hc
theorem caps_of {base' : Heap} {scope : Scope} {pn : Str} {Nf : List Str} {js : List Nat} {xs : List V} (I : Inv X pins σ H s) (L : LamP X.env.scope scope pn)
    (nf : ∀ (i : Nat) y, Nf[i]? = some y → scope.names.lookup y = some .free ∧ ∃ j, js[i]? = some j ∧ X.N[j]? = some y) (jl : js.length = Nf.length) (xl : xs.length = js.length) (hx : ∀ (i : Nat) j, js[i]? = some j → ∃ y, xs[i]? = some y ∧ σ[j]? = some (some y))
    (sub : ∀ b, b ∈ (cloFrom X.env.cells scope.names []).map (·.2) → ∀ o, s.heap.get? b = some o → base'.get? b = some o) : Caps base' scope (cloFrom X.env.cells scope.names []) Nf xs := by
  have up : ∀ {y c}, (cloFrom X.env.cells scope.names []).lookup y = some c → X.env.cells.lookup y = some c := fun {y c} e => clo_up (sc := scope) I.ok L (PySem.mem_of_lookup e)
  have down : ∀ {y}, scope.names.lookup y = some .free → ∃ c, (cloFrom X.env.cells scope.names []).lookup y = some c := fun {y} e =>
    mem_lookup (cloFrom_has (cells := X.env.cells) (acc := []) (show (y, NameKind.free) ∈ scope.names from PySem.mem_of_lookup e))
  have keep : ∀ {y c v}, (cloFrom X.env.cells scope.names []).lookup y = some c → s.heap.IsCell c v → base'.IsCell c v := fun {y c v} e ⟨o, ho, hd⟩ => ⟨o, sub c (List.mem_map.mpr ⟨(y, c), PySem.mem_of_lookup e, rfl⟩) o ho, hd⟩
  refine ⟨by rw [xl, jl], fun y z c e1 e2 => I.ok.inj y z c (up e1) (up e2), fun y k => down k, fun y c e => ?_, fun i y x e1 e2 => ?_⟩
  · obtain ⟨v, z⟩ := I.cell y c (up e)
    exact ⟨v, keep e z⟩
  · obtain ⟨k, j, ej, en⟩ := nf i y e1
    obtain ⟨x', ex, es⟩ := hx i j ej
    rw [e2] at ex
    cases ex
    refine ⟨k, ?_⟩
    obtain ⟨m, hn, hl⟩ := I.loc
    have out := L.free _ (PySem.mem_of_lookup k) rfl
    obtain ⟨u, r, q⟩ := hl j y x en es (out.elim (fun k => .inr (.inl k)) (fun k => .inr (.inr k)))
    obtain ⟨c2, h2⟩ := down k
    refine ⟨c2, u, h2, ?_, r⟩
    have c1 := up h2
    rcases q with ⟨k', _⟩ | ⟨_, c3, e', z⟩
    · have k' : X.env.scope.names.lookup y = some .local := k'
      rcases out with k2 | k2 <;> rw [show X.env.scope.names.lookup y = _ from k2] at k' <;> cases k'
    · rw [c1] at e'
      cases e'
      exact keep h2 z
theorem cell_off (I : Inv X pins σ H s) (hfn : ∀ y, X.fn y = true) {y : Str} {c : Addr} (e : X.env.cells.lookup y = some c) : c ∉ frs X.stack := fun z => by
  rcases List.mem_cons.mp (I.stkSub _ z) with h | h
  · obtain ⟨v, o, ho, hd⟩ := I.cell y c e
    obtain ⟨m, ⟨o', es, ep, ho', hd', _⟩, _⟩ := I.loc
    rw [h, ho'] at ho
    cases ho
    rw [hd'] at hd
    cases hd
  · obtain ⟨_, o, ho, _⟩ := I.ok.funs.mem h
    exact Nat.lt_irrefl _ (Nat.lt_of_lt_of_le (Heap.lt_size ho) (I.ok.cab y c (hfn y) e))
end
/-- the reading of x(e1, e2, lambda ..) -/
def tLam3 (T : List (Addr × Str)) (q : Str) (js : List Nat) (spX : List V → Addr → Addr → Sp) (t1 t2 : TE) : TE := fun σ H Q => t1 σ H fun v1 H1 => t2 σ H1 fun v2 H2 => ∃ xs : List V, xs.length = js.length ∧ (∀ (i : Nat) j, js[i]? = some j → ∃ y, xs[i]? = some y ∧ σ[j]? = some (some y)) ∧ Tabs T H2 ∧
      ∀ H3, ExtN H2 H3 → Tabs T H3 → ∀ f c', H3 c' = some (CodeO c' q) → spX xs f c' [v1, v2, .ref f] H3 Q C8.E0
section
variable {X : Cx}
theorem pe_lam3 {T : List (Addr × Str)} {x a1 a2 a3 pn : Str} {g c P : Addr} {kl kx : Nat} {fdx : FuncData} {params : Arguments} {body : Expr} {scope : Scope} {Nf : List Str} {js : List Nat} {tb : TE} {e1 e2 : Expr} {t1 t2 : TE} {spX : List V → Addr → Addr → Sp} {p lpos pos : Pos}
    (hg : Gl X x) (hm : X.mg x = some (.ref g)) (hk : PySem.W.keepIn X.K (.ref g) = true) (hb : L2.Binds X.K fdx [a1, a2, a3] []) (h1 : PE X e1 t1) (h2 : PE X e2 t2)
    (TB : TabB X.base X.mg c P) (hcode : X.env.code = .ref c) (hmT : (P, X.env.qual ++ "<lambda>") ∈ T) (hu : ∀ p ∈ T, p.1 = P → p.2 = X.env.qual ++ "<lambda>") (hfn : ∀ y, X.fn y = true) (room : Room kx X.A)
    (L : LamP X.env.scope scope pn) (pN : pn ∉ Nf) (d0 : ∀ env, defaultsOf params env = ([], [])) (nf : ∀ (i : Nat) y, Nf[i]? = some y → scope.names.lookup y = some .free ∧ ∃ j, js[i]? = some j ∧ X.N[j]? = some y) (jl : js.length = Nf.length)
    (bindL : ∀ (q : Str) (cl : List (Str × Addr)) (doc pm ctv : Value) (c' : Addr) (u : Value), bindArgs (lamF q params body scope cl .none doc pm c' ctv) ⟨[u], []⟩ = pure [(pn, u)])
    (hbody : ∀ (base' : Heap) (f c' : Addr) (cl : List (Str × Addr)) (A : Around) (outer : List Env) (s : Shared) (H : Hp), Room kl (A.deeper (PySem.W.envX (X.env.qual ++ "<lambda>") scope s.heap.objs.size f (.ref c') cl)) →
      PE (lamC X.prog X.w X.K X.mg base' A outer s H (pn :: Nf) (X.env.qual ++ "<lambda>") scope f c' cl) body tb)
    (hx : ∀ (base' : Heap) (f c' : Addr) (fdL : FuncData) (xs : List V) (oc : Value) (od : Option Addr) (sl : Array (Option Value)), FnOk X.prog X.w X.K X.mg base' C8.CX0 (kl + 1) f fdL [pn] (spL tb c' (X.env.qual ++ "<lambda>") xs) → base'.get? f = some ⟨oc, od, .func fdL, sl⟩ →
      (∀ u, bindArgs fdL ⟨[u], []⟩ = pure [(pn, u)]) → FnOk X.prog X.w X.K X.mg base' C8.CX0 kx g fdx [a1, a2, a3] (spX xs f c'))
    (hdb : (x == ("__debug__" : Str)) = false := by decide) (he : starEach [e1, e2, .Lambda params body scope lpos] X.env = (false, eval e1 X.env) :: starEach [e2, .Lambda params body scope lpos] X.env := by rfl)
    (he2 : starEach [e2, .Lambda params body scope lpos] X.env = (false, eval e2 X.env) :: starEach [.Lambda params body scope lpos] X.env := by rfl)
    (he3 : starEach [.Lambda params body scope lpos] X.env = (false, eval (.Lambda params body scope lpos) X.env) :: starEach [] X.env := by rfl)
    (hpl : (backTo pos (starEach [e2, .Lambda params body scope lpos] X.env)).any (·.1) = false := by rfl) :
    PE X (.Call (.Name x p) [e1, e2, .Lambda params body scope lpos] [] pos) (tLam3 T (X.env.qual ++ "<lambda>") js spX t1 t2) := by
  refine ⟨fun pins s σ H Q I wish => wpAny_Call_Name_kw (ld_glob I hg hm ?_ hdb)⟩
  refine PySem.W.callWith_K (h₀ := X.base) I.ok.mod.kin hk ?_ he hpl
  refine spliced_more (thn (h1.run pins s σ H _ I wish) fun u1 s1 ⟨v1, H1, I1, r1, w1⟩ => ?_) he
  refine spliced_more (thn (h2.run pins s1 σ H1 _ I1 w1) fun u2 s2 ⟨v2, H2, I2, r2, xs, xl, hxs, hT, w2⟩ => ?_) he2
  refine spliced_more ?_ he3
  rw [arm_eval_Lambda, d0]
  refine wpAny_bind (wpAny_pure (wpAny_bind (wpAny_holding (wpAny_pure ?_))))
  rw [makeFunction_eq]
  simp only [List.zip_nil_right, List.filterMap_nil, List.isEmpty_nil, if_true, pure_bind]
  have hfree : ∀ y ∈ scope.names, y.2 = .free → ∃ c, X.env.cells.lookup y.1 = some c := fun y hy e => (L.free y hy e).elim (fun k => I2.ok.has _ (.inl k)) fun k => I2.ok.has _ (.inr k)
  refine lam_tail I2 TB hcode hmT hu hT hfree fun f c' doc pm ctv H3 s3 I3 e3 T3 st gf nfr off hc => Calls.spliced_nil ⟨I3.kIn, ?_⟩
  have mem : ∀ b, b ∈ (cloFrom X.env.cells scope.names []).map (·.2) → ∃ y, X.env.cells.lookup y = some b := fun b hb => by
    obtain ⟨q, hq, e⟩ := List.mem_map.mp hb
    exact ⟨q.1, by rw [← e]; exact clo_up (sc := scope) I3.ok L hq⟩
  obtain ⟨base', e0, sub⟩ := base_up I3.env0 (f :: (cloFrom X.env.cells scope.names []).map (·.2)) (fun b hb => by
      rcases List.mem_cons.mp hb with rfl | hb
      · exact nfr
      · obtain ⟨y, hy⟩ := mem b hb
        exact I3.freeC y b hy) (fun b hb => by
      rcases List.mem_cons.mp hb with rfl | hb
      · exact off
      · obtain ⟨y, hy⟩ := mem b hb
        exact cell_off I3 hfn hy)
  have C := caps_of (base' := base') I3 L nf jl xl hxs fun b hb o ho => sub b (List.mem_cons_of_mem _ hb) o ho
  have gf' := sub f List.mem_cons_self _ gf
  have FL := lam_ok (P := X.prog) (w := X.w) (K := X.K) (mg := X.mg) (k := kl) (tb := tb) L C pN gf' fun A outer s H hr => hbody base' f c' _ A outer s H hr
  have F := hx base' f c' _ xs _ _ _ FL gf' (bindL _ _ _ _ _ _)
  have b := hb s3 [u1, u2, .ref f] I3.kIn rfl
  refine wpAny_call (codeAny_mono (F.run X.A X.stack s3 H3 ⟨[u1, u2, .ref f], []⟩ [u1, u2, .ref f] [v1, v2, .ref f] Q C8.E0 room e0 b (.cons r1 (.cons r2 (.cons rfl .nil))) (w2 H3 e3 T3 f c' hc)) fun r t4 z => ?_)
  match r, z with
  | .error e, z => exact z.elim
  | .ok (.ret u), z => exact I3.after z
  | .ok .next, z => exact z.elim
  | .ok .brk, z => exact z.elim
  | .ok .cont, z => exact z.elim
end
end FlT
namespace L2.FK
open PySem PySem.Spec PyProof.Rows L2.FL FlT LamX
section
variable {P : Program} {w : World} {K : PySem.W.Frag} {mg : Str → Option Value} {base : Heap} {C : Addr}
end
end L2.FK
/-! A law's state, what stays over every step of it, and the promises said of maps as values. -/
namespace L2.FK
open PySem PySem.Spec PyProof.Rows L2.FL FlT LamX
/-- the bag and the tables stand -/
structure Lv (b sa : Addr) (TT : List (Addr × Str)) (H : Hp) : Prop where
  bag : BagAt H b sa
  tab : Tabs TT H
/-- .. still, and what is neither the bag nor a table is as it was -/
structure Up (b sa : Addr) (TT : List (Addr × Str)) (H H' : Hp) : Prop where
  lv : Lv b sa TT H'
  fr : Same (frm b H) (frm b H')
section
variable {b sa : Addr} {TT : List (Addr × Str)} {H H' H'' : Hp} {v : V}
theorem Lv.same (L : Lv b sa TT H) (s : Same H H') : Up b sa TT H H' := ⟨⟨L.bag.mono s, tabs_same L.tab s⟩, frm_same s⟩
theorem Lv.draw (L : Lv b sa TT H) (s : Same (del b H) (del b H')) (B : BagAt H' b sa) : Up b sa TT H H' := ⟨⟨B, tabs_bag L.tab L.bag s⟩, frm_bag s⟩
theorem Lv.ext (L : Lv b sa TT H) (e : ExtN H H') (t : Tabs TT H') : Up b sa TT H H' := ⟨⟨L.bag.ext e, t⟩, frm_ext e⟩
theorem Up.refl (L : Lv b sa TT H) : Up b sa TT H H := ⟨L, fun _ _ h => h⟩
theorem Up.trans (u : Up b sa TT H H') (u' : Up b sa TT H' H'') : Up b sa TT H H'' := ⟨u'.lv, u.fr.trans u'.fr⟩
theorem Up.tup (L : Lv b sa TT H) (u : Up b sa TT H H') {x : Addr} {xs : List V} (h : H x = some (.tup xs)) : H' x = some (.tup xs) := by
  obtain ⟨_, i, held, mix, cnt, hb, _⟩ := L.bag
  exact (of_del (of_noT (u.fr _ _ (noT_of (del_of hb h fun z => nomatch z) fun _ z => nomatch z))).1).1
theorem PlAt.up (L : Lv b sa TT H) (u : Up b sa TT H H') {p : Pl} (h : PlAt H v p) : PlAt H' v p := ((h.frm L.bag).mono u.fr).mono frm_in
theorem IntsAt.up (L : Lv b sa TT H) (u : Up b sa TT H H') {ns : List Int} (h : IntsAt H v ns) : IntsAt H' v ns := (((h.bag L.bag).nt).mono u.fr).mono frm_in
theorem RowAt.up (L : Lv b sa TT H) (u : Up b sa TT H H') {ns : List Pl} (h : RowAt H v ns) : RowAt H' v ns := (((h.bag L.bag).nt).mono u.fr).mono frm_in
theorem RowsAt.up (L : Lv b sa TT H) (u : Up b sa TT H H') {ns : List (List Pl)} (h : RowsAt H v ns) : RowsAt H' v ns := (((h.bag L.bag).nt).mono u.fr).mono frm_in
theorem DAt.up (L : Lv b sa TT H) (u : Up b sa TT H H') {ds : List Int} {T : List (List Pl)} (h : DAt H v ds T) : DAt H' v ds T := ((h.frm L.bag).mono u.fr).mono frm_in
theorem LMap.up {C : Addr} (L : Lv b sa TT H) (u : Up b sa TT H H') {ds : List Int} {T : List (List Pl)} (h : LMap C H v ds T) : LMap C H' v ds T := ((h.frm L.bag).mono u.fr).mono frm_in
/-- a list object that is not the bag's -/
structure LstAt (b : Addr) (H : Hp) (l : Addr) (xs : List V) : Prop where
  at_ : del b H l = some (.lst xs)
theorem LstAt.get {l : Addr} {xs : List V} (h : LstAt b H l xs) : H l = some (.lst xs) := (of_del h.at_).1
theorem LstAt.ne {l : Addr} {xs : List V} (h : LstAt b H l xs) : l ≠ b := (of_del h.at_).2
theorem LstAt.up (_ : Lv b sa TT H) (u : Up b sa TT H H') {l : Addr} {xs : List V} (h : LstAt b H l xs) : LstAt b H' l xs := ⟨(of_noT (u.fr _ _ (noT_of h.at_ fun _ z => nomatch z))).1⟩
theorem Lv.old (L : Lv b sa TT H) {l : Addr} (h : H l = none) : l ≠ b := fun e => by
  obtain ⟨_, i, held, mix, cnt, hb, _⟩ := L.bag
  rw [e, hb] at h; cases h
theorem LstAt.of (L : Lv b sa TT H) {l : Addr} {xs : List V} (n : l ≠ b) (h : H l = some (.lst xs)) : LstAt b H l xs := ⟨by rw [del_ne n]; exact h⟩
end
/-- a list of a law's own is written -/
theorem Lv.put {b sa : Addr} {TT : List (Addr × Str)} {H : Hp} {l : Addr} {xs ys : List V} (L : Lv b sa TT H) (h : LstAt b H l xs) (n : l ≠ sa) : Lv b sa TT (upd H l (.lst ys)) := by
  refine ⟨L.bag.put h.ne.symm n.symm, fun p hp => ?_⟩
  obtain ⟨ps, h1, h2, h3⟩ := L.tab p hp
  refine ⟨ps, by rw [upd_ne (ne_of h1 h.get (fun z => nomatch z))]; exact h1, h2, fun pos cv hc => ?_⟩
  obtain ⟨c, e1, e2⟩ := h3 pos cv hc
  exact ⟨c, e1, by rw [upd_ne (ne_of e2 h.get (fun z => nomatch z))]; exact e2⟩
theorem Lv.ne_sa {b sa : Addr} {TT : List (Addr × Str)} {H : Hp} {l x : Addr} {xs : List V} (L : Lv b sa TT H) (h : LstAt b H l (.ref x :: xs)) : l ≠ sa := fun e => by
  obtain ⟨ns, i, held, mix, cnt, _, h2, _⟩ := L.bag
  have h3 := h.at_
  rw [e, h2] at h3
  injection h3 with h3
  injection h3 with h3
  cases ns with
  | nil => cases h3
  | cons _ _ => injection h3 with h3; cases h3
abbrev LMv (C : Addr) (H : Hp) (v : V) (a : Mv) : Prop := LMap C H v a.ds a.T
abbrev DMv (H : Hp) (v : V) (a : Mv) : Prop := DAt H v a.ds a.T
section
variable {P : Program} {w : World} {K : PySem.W.Frag} {mg : Str → Option Value} {base : Heap} {C CT : Addr} {TT : List (Addr × Str)}
theorem cal_imp {k : Nat} {x : Str} {sp sp' : Sp} {dvs : List V} (h : C8.Cal P w K mg base k x sp dvs) (i : ∀ vs H Q E, sp' vs H Q E → sp vs H Q E) : C8.Cal P w K mg base k x sp' dvs := by
  obtain ⟨f, fd, ps, ds, F, a, b, c, d⟩ := h
  exact ⟨f, fd, ps, ds, ⟨fun vs H Q E z => F.len vs H Q E (i _ _ _ _ z), fun A outer s H args us vs Q E hr e0 hb r z => F.run A outer s H args us vs Q E hr e0 hb r (i _ _ _ _ z)⟩, a, b, c, d⟩
theorem met_imp {k : Nat} {x : Str} {sp sp' : Sp} {dvs : List V} (h : C8.Met P w K mg base k C x sp dvs) (i : ∀ vs H Q E, sp' vs H Q E → sp vs H Q E) : C8.Met P w K mg base k C x sp' dvs := by
  obtain ⟨f, fd, ps, ds, c1, c2, F, c, d⟩ := h
  exact ⟨f, fd, ps, ds, c1, c2, ⟨fun vs H Q E z => F.len vs H Q E (i _ _ _ _ z), fun A outer s H args us vs Q E hr e0 hb r z => F.run A outer s H args us vs Q E hr e0 hb r (i _ _ _ _ z)⟩, c, d⟩
/-! ### the law's helpers -/
def gBag (K : PySem.W.Frag) (TT : List (Addr × Str)) : Sp := fun vs H Q _ => ∃ (a : Addr) (ns : List Int), vs = [.ref a] ∧ SqL K H a (ns.map V.int) ∧ Tabs TT H ∧ ∀ b sa H', Lv b sa TT H' → Q (.ref b) H'
theorem w_bag (c : C8.Cal P w K mg base 1 "_law_bag" (spBag K) []) : C8.Cal P w K mg base 1 "_law_bag" (gBag K TT) [] := cal_imp c fun vs H Q E z => by
  obtain ⟨a, ns, e, h, t, q⟩ := z
  exact ⟨a, ns, e, h, fun b sa H' _ s B => q b sa H' ⟨B, tabs_same t (s.trans del_same)⟩⟩
def gPull (TT : List (Addr × Str)) : Sp := fun vs H Q _ => ∃ (b sa : Addr) (sz : Int), vs = [.ref b, .int sz] ∧ Lv b sa TT H ∧ 0 < sz ∧ sz < 1073741824 ∧ ∀ (r : Nat) H', (r : Int) < sz → Up b sa TT H H' → Q (.int (r : Int)) H'
theorem w_pull (c : C8.Cal P w K mg base 1 "_law_pull" spPull []) : C8.Cal P w K mg base 1 "_law_pull" (gPull TT) [] := cal_imp c fun vs H Q E z => by
  obtain ⟨b, sa, sz, e, L, h1, h2, q⟩ := z
  refine ⟨b, sa, sz, e, L.bag, h1, h2, fun r H' r0 r1 s B => ?_⟩
  obtain ⟨m, rfl⟩ : ∃ m : Nat, r = m := ⟨r.toNat, by omega⟩
  exact q m H' r1 (L.draw s B)
def gAny (TT : List (Addr × Str)) : Sp := fun vs H Q _ => ∃ (b sa : Addr) (n : Nat) (st mo : Int), vs = [.ref b, .int n, .int st, .int mo] ∧ Lv b sa TT H ∧ 1 ≤ n ∧ n ≤ 6 ∧ 0 ≤ st ∧ st ≤ 1000 ∧ 0 ≤ mo ∧ mo ≤ 20 ∧
  ∀ r H' a, Up b sa TT H H' → DMv H' r a → Kn 26 6 n a → (∀ d ∈ a.ds, -st ≤ d ∧ d ≤ st) → Q r H'
theorem w_any (c : C8.Cal P w K mg base 3 "_law_any" spAny []) : C8.Cal P w K mg base 3 "_law_any" (gAny TT) [] := cal_imp c fun vs H Q E z => by
  obtain ⟨b, sa, n, st, mo, e, L, h1, h2, h3, h4, h5, h6, q⟩ := z
  exact ⟨b, sa, n, st, mo, e, L.bag, h1, h2, h3, h4, h5, h6, fun r H' ds T s B hD o t l sm hd => q r H' ⟨ds, T⟩ (L.draw s B) hD ⟨o, t, l, sm⟩ hd⟩
def gOf (TT : List (Addr × Str)) : Sp := fun vs H Q _ => ∃ (b sa l : Addr) (xs : List V), vs = [.ref b, .ref l] ∧ Lv b sa TT H ∧ l ≠ b ∧ H l = some (.lst xs) ∧ 0 < xs.length ∧ xs.length ≤ 3000 ∧ ∀ (i : Nat) (x : V) H', xs[i]? = some x → Up b sa TT H H' → Q x H'
theorem w_of (c : C8.Cal P w K mg base 2 "_law_of" spOf []) : C8.Cal P w K mg base 2 "_law_of" (gOf TT) [] := cal_imp c fun vs H Q E z => by
  obtain ⟨b, sa, l, xs, e, L, h1, h2, h3, h4, q⟩ := z
  exact ⟨b, sa, l, xs, e, L.bag, h1, h2, h3, h4, fun i x H' hx s B => q i x H' hx (L.draw s B)⟩
/-! ### the program -/
def gDr (C : Addr) (TT : List (Addr × Str)) : Sp := fun vs H Q _ => ∃ (b sa : Addr) (v : V) (a : Mv), vs = [v] ∧ Lv b sa TT H ∧ LMv C H v a ∧ ∀ l H', Up b sa TT H H' → LstAt b H' l (a.ds.map V.int) → Q (.ref l) H'
theorem w_drifts (c : C8.Met P w K mg base 1 C "drifts" (spDr C) []) : C8.Met P w K mg base 1 C "drifts" (gDr C TT) [] := met_imp c fun vs H Q E z => by
  obtain ⟨b, sa, v, a, e, L, hD, q⟩ := z
  refine ⟨v, a.ds, a.T, e, hD, fun l hl => ?_⟩
  have s := same_new hl (.lst (a.ds.map V.int))
  exact q l _ (L.same s) (LstAt.of (L.same s).lv (L.old hl) upd_same)
/-- two maps compared with == and != -/
theorem eq_maps {H : Hp} {Q : VK} {g : Bool → Bool} {E : XK} {v u : V} {R D R' D' n : Nat} {a c : Mv} (h1 : LMv C H v a) (h2 : LMv C H u c) (k : Kn R D n a) (k' : Kn R' D' n c) (h : ∀ p, isP n p → a.go p = c.go p) (q : Q (.bl (g true)) H) : rEqI C (spEqB C) E g v u H Q :=
  eqI_maps h1 h2 (by rw [mv_dec k k' h]; exact q)
end
end L2.FK
/-! A list object is kept out of an evaluation: what is made meanwhile cannot hold it. -/
namespace L2.FL
open PySem PySem.Spec PyProof.Rows L2
section
variable {X : Cx} {pins : List (Addr × Obj)} {σ : St} {H H' : Hp} {s s' : Shared} {D : Addr} {xs : List V}
theorem inv_out (I : Inv X pins σ H s) (hD : H D = some (.lst xs)) : ∃ ob : Obj, Inv X ((D, ob) :: pins) σ (FK.del D H) s ∧ ∀ {H' s'}, Inv X ((D, ob) :: pins) σ H' s' → H' D = none ∧ Inv X pins σ (upd H' D (.lst xs)) s' := by
  obtain ⟨hl, its, n, r, e⟩ := I.hok D _ hD
  have nL : D ≠ X.env.locals := ne_of_none hD I.free
  have nF : D ∉ X.fs := fun hb => by
    obtain ⟨_, o, ho, _⟩ := I.ok.funs.mem hb
    have := I.base.free D o ho (I.ok.frf D hb) fun z => I.ok.exfs D z hb
    rw [hD] at this; cases this
  have nC : ∀ x c, X.env.cells.lookup x = some c → c ≠ D := fun x c q z => by rw [z] at q; have := I.freeC x D q; rw [hD] at this; cases this
  refine ⟨{ cls := .type "list", data := .seq its.toArray n }, ⟨I.ok, I.os, I.bare, ⟨I.base.keep, I.base.slot, fun b o e1 e2 e3 => ?_, I.base.there, fun b ys q => ?_, fun b o u q => ?_, fun b ps q => ?_⟩, I.loc, I.cell, ?_, fun x c q => ?_, fun p hp => ?_, fun a o q => ?_, I.len⟩, fun {H' s'} J => ?_⟩
  · by_cases z : b = D
    · rw [z]; exact FK.del_at
    · rw [FK.del_ne z]; exact I.base.free b o e1 e2 e3
  · have q := I.base.tups b ys q
    rw [FK.del_ne (ne_of q hD (fun z => nomatch z))]; exact q
  · have q := I.base.frzs b o u q
    rw [FK.del_ne (ne_of q hD (fun z => nomatch z))]; exact q
  · obtain ⟨m, q⟩ := I.base.tbls b ps q
    exact ⟨m, by rw [FK.del_ne (ne_of q hD (fun z => nomatch z))]; exact q⟩
  · rw [FK.del_ne (Ne.symm nL)]; exact I.free
  · rw [FK.del_ne (nC x c q)]; exact I.freeC x c q
  · have old : p ∈ X.pn ++ pins → s.heap.get? p.1 = some p.2 ∧ FK.del D H p.1 = none ∧ p.1 ≠ X.env.locals ∧ p.1 ∉ X.fs ∧ ∀ v, p.2.data ≠ .cell v := fun hp => by
      obtain ⟨a1, a2, a3, a4, a5⟩ := I.pin p hp
      exact ⟨a1, by rw [FK.del_ne (ne_of_none hD a2).symm]; exact a2, a3, a4, a5⟩
    rcases List.mem_append.mp hp with h | h
    · exact old (List.mem_append_left _ h)
    · rcases List.mem_cons.mp h with rfl | h
      · exact ⟨e, FK.del_at, nL, nF, fun v z => by cases z⟩
      · exact old (List.mem_append_right _ h)
  · obtain ⟨q, na⟩ := FK.of_del q
    exact (I.hok a o q).stay (fun _ _ _ z => z) (fun b z => by rw [FK.del_ne (ne_of z hD (fun z => nomatch z))]; exact z) fun b ys z => by rw [FK.del_ne (ne_of z hD (fun z => nomatch z))]; exact z
  · obtain ⟨p1, p2, _⟩ := J.pin (D, _) (List.mem_append_right _ (List.mem_cons_self ..))
    refine ⟨p2, J.ok, J.os, J.bare, ⟨J.base.keep, J.base.slot, fun b o e1 e2 e3 => ?_, J.base.there, fun b ys q => ?_, fun b o u q => ?_, fun b ps q => ?_⟩, J.loc, J.cell, ?_, fun x c q => ?_, fun p hp => ?_, fun a o q => ?_, J.len⟩
    · have z := I.base.free b o e1 e2 e3
      rw [upd_ne (ne_of_none hD z).symm]; exact J.base.free b o e1 e2 e3
    · have z := I.base.tups b ys q
      rw [upd_ne (ne_of z hD (fun z => nomatch z))]; exact J.base.tups b ys q
    · have z := I.base.frzs b o u q
      rw [upd_ne (ne_of z hD (fun z => nomatch z))]; exact J.base.frzs b o u q
    · obtain ⟨m, z⟩ := I.base.tbls b ps q
      obtain ⟨m', z'⟩ := J.base.tbls b ps q
      exact ⟨m', by rw [upd_ne (ne_of z hD (fun z => nomatch z))]; exact z'⟩
    · rw [upd_ne (Ne.symm nL)]; exact J.free
    · rw [upd_ne (nC x c q)]; exact J.freeC x c q
    · have hp' : p ∈ X.pn ++ (D, ({ cls := .type "list", data := .seq its.toArray n } : Obj)) :: pins := by
        rcases List.mem_append.mp hp with h | h
        · exact List.mem_append_left _ h
        · exact List.mem_append_right _ (List.mem_cons_of_mem _ h)
      obtain ⟨a1, a2, a3⟩ := J.pin p hp'
      exact ⟨a1, by rw [upd_ne (ne_of_none hD (I.pin p hp).2.1).symm]; exact a2, a3⟩
    · by_cases z : a = D
      · subst z
        rw [upd_same] at q
        cases q
        exact ⟨hl, its, n, r, p1⟩
      · rw [upd_ne z] at q
        exact (J.hok a o q).stay (fun _ _ _ z => z) (fun b z => by rw [upd_ne (ne_of_none z p2)]; exact z) fun b ys z => by rw [upd_ne (ne_of_none z p2)]; exact z
end
/-- an expression that is evaluated while a list object is out of sight -/
def tFr (te : TE) : TE := fun σ H Q => ∃ D xs, H D = some (.lst xs) ∧ te σ (FK.del D H) fun r H' => H' D = none → Q r (upd H' D (.lst xs))
theorem pe_fr {X : Cx} {e : Expr} {te : TE} (h : PE X e te) : PE X e (tFr te) := ⟨fun pins s σ H Q I z => by
  obtain ⟨D, xs, hD, z⟩ := z
  obtain ⟨ob, J, back⟩ := inv_out I hD
  refine thn (h.run _ s σ _ _ J z) fun u s' ⟨v, H', J', r, q⟩ => ?_
  obtain ⟨n, K⟩ := back J'
  exact ⟨v, _, K, r, q n⟩⟩
end L2.FL
/-! Calls of built-ins inside comprehensions. -/
namespace L2.FK
open PySem PySem.Spec PyProof.Rows L2.FL
theorem dec_vint {a b : Int} : decide (V.int a = V.int b) = true ↔ a = b := by rw [decide_eq_true_eq]; exact ⟨fun h => by injection h, fun h => by rw [h]⟩
section
variable {X : Cx}
theorem c_sum (K : PySem.W.Frag) (h : X.K = K := by rfl) (hc : X.calm = true := by rfl) : CallR X (.builtin "sum") (rSum K) := by subst h; exact cr_sum hc
end
end L2.FK
/-! Comprehensions and loops over a law's state. -/
namespace L2.FK
open PySem PySem.Spec PyProof.Rows L2.FL FlT LamX
theorem del_none {H : Hp} {D : Addr} (h : H D = none) : del D H = H := by
  funext x
  by_cases e : x = D
  · rw [e, del_at, h]
  · rw [del_ne e]
theorem op_inQ {X : Cx} (K : PySem.W.Frag) (h : X.K = K := by rfl) : OpR X (compareOp .In) (rIn K false) := by subst h; exact op_in_seq
theorem op_ninQ {X : Cx} (K : PySem.W.Frag) (h : X.K = K := by rfl) : OpR X (compareOp .NotIn) (rIn K true) := by subst h; exact op_notIn_seq
section
variable {b sa : Addr} {TT : List (Addr × Str)}
/-- a comprehension whose one target is a name, over a walk that makes nothing, its element in the frame of the new list -/
theorem lc_name {J : It} {n : Nat} {G : Hp → Prop} {Y : Nat → Hp → V → Hp → Prop} (w : Walk J n G Y) (hY : ∀ i H x H', Y i H x H' → H' = H ∧ ∀ H2, Y i H2 x H2) {te : TE} {v0 : Nat} {σ : St} {H1 : Hp} {D : Addr} {Qd : Hp → Prop} (L1 : Lv b sa TT H1) (hD : H1 D = none)
    (hG : ∀ H, Up b sa TT H1 H → G H) (hn : n ≤ 100000) (F : Nat → Hp → V → Prop) (hF : ∀ i H H' v, Lv b sa TT H → Up b sa TT H H' → F i H v → F i H' v)
    (hs : ∀ i x H Q, i < n → Up b sa TT H1 H → H D = none → Y i H x H → (∀ r H', Up b sa TT H H' → F i H' r → Q r H') → te ((wipe σ [v0]).set v0 (some x)) H Q)
    (hd : ∀ H us, Up b sa TT H1 H → LstAt b H D us → us.length = n → (∀ j v, us[j]? = some v → F j H v) → Qd H) :
    ∃ W : Nat → Nat → Hp → Prop, (∃ m, W 0 m (upd H1 D (.lst []))) ∧ ∀ i m H, W i m H →
      (J.stop i H ∧ Qd H) ∨ (J.go i H ∧ ∃ Nx : Hp → Prop, (∀ H', Nx H' → ∃ m', m' < m ∧ W (i + 1) m' H') ∧ ∀ x H', J.yld i H x H' → (gName v0) x (wipe σ [v0]) H' fun σ2 H2 => wipe σ2 [v0] = wipe σ [v0] ∧ tYes σ2 H2 fun b H3 =>
        if b = true then (tFr te) σ2 H3 fun y H4 => ∃ acc, H4 D = some (.lst acc) ∧ acc.length < sizeLine ∧ Nx (upd H4 D (.lst (acc ++ [y]))) else Nx H3) := by
  have nb : D ≠ b := L1.old hD
  refine lc_it w (g := gName v0) (tt := tYes) (te := tFr te) (vs := [v0]) (σ := σ) (fun i H => Up b sa TT H1 (del D H) ∧ ∃ us, H D = some (.lst us) ∧ us.length = i ∧ ∀ j v, us[j]? = some v → F j (del D H) v) ?_ ?_ ?_ ?_
  · rw [del_upd, del_none hD]
    exact ⟨Up.refl L1, [], upd_same, rfl, fun j v h => by simp at h⟩
  · rintro i H _ ⟨u, _⟩
    exact hG _ (u.trans (u.lv.same del_same))
  · rintro i x H Hy hi ⟨u, us, hus, hl, hf⟩ y
    obtain ⟨rfl, y2⟩ := hY _ _ _ _ y
    refine ⟨?_, D, us, hus, hs i x (del D Hy) _ hi u del_at (y2 _) fun r H' u' f hn' => ?_⟩
    · show ((σ.set v0 none).set v0 (some x)).set v0 none = σ.set v0 none
      rw [List.set_set, List.set_set]
    · refine ⟨us, upd_same, Nat.lt_of_le_of_lt (show us.length ≤ 100000 by omega) (by decide), ?_⟩
      rw [upd_upd, del_upd, del_none hn']
      refine ⟨u.trans u', us ++ [r], upd_same, by rw [List.length_append, hl]; rfl, fun j v h => ?_⟩
      by_cases hj : j < us.length
      · rw [List.getElem?_append_left hj] at h
        exact hF _ _ _ _ u.lv u' (hf j v h)
      · rw [List.getElem?_append_right (by omega)] at h
        have e0 : j - us.length = 0 := by
          have := (List.getElem?_eq_some_iff.mp h).1
          simp at this; omega
        rw [e0] at h
        cases h
        have : j = i := by omega
        rw [this]; exact f
  · rintro H ⟨u, us, hus, hl, hf⟩
    have u2 := u.lv.same (del_same (D := D) (H := H))
    exact hd H us (u.trans u2) (LstAt.of (u.trans u2).lv nb hus) hl fun j v h => hF _ _ _ _ u.lv u2 (hf j v h)
theorem yfn_stay {f : Nat → V} : ∀ i H x H', YFn f i H x H' → H' = H ∧ ∀ H2, YFn f i H2 x H2 := fun i H x H' h => ⟨h.1, fun _ => ⟨rfl, h.2⟩⟩
theorem yat_stay {xs : List V} : ∀ i H x H', YAt xs i H x H' → H' = H ∧ ∀ H2, YAt xs i H2 x H2 := fun i H x H' h => ⟨h.1, fun _ => ⟨rfl, h.2⟩⟩
theorem ne_pl {K : PySem.W.Frag} {H : Hp} {Q : VK} {v u : V} {p q : Pl} (h1 : PlAt H v p) (h2 : PlAt H u q) (e : p = q) (z : Q (.bl false) H) : rNeD K v u H Q := ⟨_, _, dp_pl h1, dp_pl h2, rfl, rfl, by subst e; rw [eqv_pl, decide_eq_true rfl]; exact z⟩
theorem eq_pl {K : PySem.W.Frag} {H : Hp} {Q : VK} {v u : V} {p q : Pl} (h1 : PlAt H v p) (h2 : PlAt H u q) (z : Q (.bl (decide (p = q))) H) : rEqD K v u H Q := ⟨_, _, dp_pl h1, dp_pl h2, rfl, rfl, by rw [eqv_pl]; exact z⟩
theorem list_of {α : Type} {l : List α} {g : α → V} {us : List V} (h : us.length = l.length) (hf : ∀ (j : Nat) v, us[j]? = some v → ∃ x, l[j]? = some x ∧ v = g x) : us = l.map g := by
  refine List.ext_getElem? fun i => ?_
  by_cases hi : i < us.length
  · obtain ⟨x, hx, e⟩ := hf i _ (List.getElem?_eq_getElem hi)
    rw [List.getElem?_eq_getElem hi, e, List.getElem?_map, hx]; rfl
  · rw [List.getElem?_eq_none (by omega), List.getElem?_eq_none (by rw [List.length_map]; omega)]
theorem paired_ofP {α β : Type} {F : α → β → Prop} : ∀ {l : List α} {m : List β}, l.length = m.length → (∀ (i : Nat) x y, l[i]? = some x → m[i]? = some y → F x y) → Paired F l m
  | [], [], _, _ => .nil
  | [], _ :: _, h, _ => by cases h
  | _ :: _, [], h, _ => by cases h
  | a :: l, b :: m, h, hh => .cons (hh 0 a b rfl rfl) (paired_ofP (by simpa using h) fun i x y hx hy => hh (i + 1) x y (by simpa using hx) (by simpa using hy))
/-- a method of a map -/
theorem mt_w {Z : Prop} {C : Addr} {H : Hp} {v : V} {ds : List Int} {T : List (List Pl)} {m : Str} (h : LMap C H v ds T) (n : (¬ m = "origins" ∧ ¬ m = "images") ∧ ¬ m = "rows" ∧ ¬ m = "shifts") (z : ∀ a, v = .ref a → Z) : ∃ a dx fs, v = .ref a ∧ H a = some (.ins C dx fs) ∧ fs.lookup m = none ∧ Z := by
  obtain ⟨p, dx, fs, e, h1, n1⟩ := h.ins
  exact ⟨p, dx, fs, e, h1, n1 _ n.1.1 n.1.2 n.2.1 n.2.2, z p e⟩
end
end L2.FK
/-! Texts: str(x) of an own class with __str__; numbers, places, parts and maps as texts. -/
namespace L2
open PySem PySem.Spec PyProof.Rows
section
variable {X : Cx} {n : Nat} {CX : CXT} {C f : Addr} {fd : FuncData} {ps : List Str} {sp : Sp} {E : XK}
/-- an instance of the class at C, as what its __str__ gives -/
def rStrO (C : Addr) (sp : Sp) (E : XK) : List V → Hp → VK → Prop := fun xs H Q => ∃ a dx fs, xs = [.ref a] ∧ H a = some (.ins C dx fs) ∧ sp [.ref a] H (fun v H' => ∃ y : Str, v = .str y ∧ Q (.str y) H') E
theorem call_strO (F : FnOk X.prog X.w X.K X.mg X.base CX n f fd ps sp) (hs : PySem.W.findIn X.K (.ref C) "__str__" = some (some (.ref f))) (hf : PySem.W.isFn X.K (.ref f) = true) (hb : Binds X.K fd ps []) (hx : Passes CX X E) (hr : Room (n + 2) X.A) :
    CallR X (.type "str") (rStrO C sp E) := by
  intro pins s σ H xs us Q I rs hq
  obtain ⟨a, dx, fs, rfl, ha, hsp⟩ := hq
  obtain ⟨u, rfl, r1⟩ := vals1 rs
  cases r1
  obtain ⟨mA, J, _⟩ := ins_get I.hok ha
  obtain ⟨od, J, _⟩ := J.look
  obtain ⟨m, hF⟩ := I.fr
  refine PySem.W.kso_call hr.in1.in1.units0 (I.ok.mod.kin.keeps hF.keep) J hs hf ?_
  have e0 : Env0 X.prog X.w X.K X.mg X.base X.A.in1.in1 X.stack s H := by
    have e := I.env0
    exact ⟨e.frames, e.mod, e.bs, e.bsz, e.funs, e.frf, e.hok, e.bare⟩
  have hl := F.len _ _ _ _ hsp
  have r2 : Vals [V.ref a] [Value.ref a] := .cons rfl .nil
  refine wpAny_call (codeAny_mono (F.run X.A.in1.in1 X.stack s H ⟨[.ref a], []⟩ [.ref a] [.ref a] _ E hr.in1.in1 e0 (by
    have := hb s [.ref a] I.kIn (by simpa using hl)
    simpa using this) r2 hsp) fun r s' hq => ?_)
  cases r with
  | error e => exact hx pins σ H s e s' I hq
  | ok fl =>
    cases fl with
    | ret w =>
      obtain ⟨z, H', I', rz, y, ez, ex⟩ := I.after hq
      subst ez
      obtain ⟨t, rfl⟩ := rz
      exact ⟨.str y, H', I', ⟨t, rfl⟩, ex⟩
    | next => exact False.elim hq
    | brk => exact False.elim hq
    | cont => exact False.elim hq
end
end L2
namespace L2.FK
open PySem PySem.Spec PyProof.Rows TL
/-! ### numbers -/
def numS (i : Int) : Str := Str.ofString (toString i)
theorem tl_numS (n : Nat) : tl (numS n) = numL n := tl_num n
theorem tl_negS (n : Nat) : tl (numS (-((n + 1 : Nat) : Int))) = 45 :: numL (n + 1) := by
  have e : toString (-((n + 1 : Nat) : Int)) = "-" ++ toString (n + 1) := rfl
  unfold numS
  rw [e, tl_ofString, String.toList_append, List.map_append, ← tl_ofString (toString (n + 1))]
  have k : tl (Str.ofString (toString (n + 1))) = numL (n + 1) := tl_num (n + 1)
  rw [k]
  rfl
theorem lt_numL (n : Nat) : n < 10 ^ (numL n).length := by
  induction n using Nat.strongRecOn with
  | _ n ih =>
    by_cases h : n < 10
    · rw [numL_lt h]; exact h
    · rw [numL_step (by omega), List.length_append]
      have z := ih (n / 10) (by omega)
      have e : 10 ^ ((numL (n / 10)).length + [48 + n % 10].length) = 10 ^ (numL (n / 10)).length * 10 := Nat.pow_succ ..
      rw [e]; omega
theorem numL_le {n m : Nat} (h : n ≤ m) : (numL n).length ≤ (numL m).length :=
  numL_len (List.length_pos_iff.mpr (numL_ne m)) (Nat.lt_of_le_of_lt h (lt_numL m))
theorem numL_pos (n : Nat) : 0 < (numL n).length := List.length_pos_iff.mpr (numL_ne n)
theorem numS_len {i : Int} {k : Nat} (hk : 0 < k) (h : i.natAbs < 10 ^ k) : (numS i).length ≤ k + 1 := by
  rw [len_tl]
  cases i with
  | ofNat n => rw [show Int.ofNat n = (n : Int) from rfl, tl_numS]; exact Nat.le_succ_of_le (numL_len hk h)
  | negSucc n => rw [show Int.negSucc n = -((n + 1 : Nat) : Int) from rfl, tl_negS, List.length_cons]; exact Nat.succ_le_succ (numL_len hk h)
theorem numS_free {i : Int} {s : Nat} (h : s < 45 ∨ 57 < s) : s ∉ tl (numS i) := by
  cases i with
  | ofNat n => rw [show Int.ofNat n = (n : Int) from rfl, tl_numS]; exact numL_free (by omega)
  | negSucc n =>
    rw [show Int.negSucc n = -((n + 1 : Nat) : Int) from rfl, tl_negS, List.mem_cons]
    rintro (e | e)
    · omega
    · exact numL_free (by omega) e
theorem isd_num {t : Str} {n : Nat} (h : tl t = numL n) : Txt.isdigit t = true := by
  unfold Txt.isdigit
  rw [len_tl, h]
  have a : ∀ c ∈ numL n, Unicode.isDigit c = true := fun c hc => by
    have r := numL_digits n c hc
    have k : ∀ d : Fin 10, Unicode.isDigit (48 + d.val) = true := by decide +kernel
    have z := k ⟨c - 48, by omega⟩
    have e : 48 + (c - 48) = c := by omega
    rw [show (⟨c - 48, by omega⟩ : Fin 10).val = c - 48 from rfl, e] at z
    exact z
  have b : t.cps.all Unicode.isDigit = true := by
    rw [← Array.all_toList, List.all_eq_true]
    intro c hc
    rw [show t.cps.toList = numL n from h] at hc
    exact a c hc
  rw [b]
  have := numL_pos n
  simp; omega
/-- texts of the signs below 128 -/
def Asc (t : Str) : Prop := ∀ c ∈ tl t, c < 128
theorem dig_asc {t : Str} (ha : Asc t) (h : Txt.isdigit t = true) : NumText.AllDigits (tl t) ∧ tl t ≠ [] := by
  unfold Txt.isdigit at h
  rw [Bool.and_eq_true] at h
  refine ⟨fun c hc => ?_, fun e => ?_⟩
  · have z : Unicode.isDigit c = true := by
      have b := h.2
      rw [← Array.all_toList, List.all_eq_true] at b
      exact b c hc
    have k : ∀ d : Fin 128, Unicode.isDigit d.val = true → 48 ≤ d.val ∧ d.val ≤ 57 := by decide +kernel
    exact k ⟨c, ha c hc⟩ z
  · have := of_decide_eq_true h.1
    rw [len_tl, e] at this
    exact absurd this (by decide)
theorem dig_int {t : Str} (ha : Asc t) (h : Txt.isdigit t = true) (hl : t.length ≤ 640) : intText? t = some ((NumText.digitsVal (tl t) : Nat) : Int) := by
  obtain ⟨d, e⟩ := dig_asc ha h
  exact intText_digits d e (by omega)
/-! ### places, parts, maps -/
def plS (p : Pl) : Str := numS p.1 ++ Str.ofString "." ++ numS p.2
def partS (d : Int) (row : List Pl) : Str := Str.join (Str.ofString " ") (numS d :: row.map plS)
def mapS (ds : List Int) (T : List (List Pl)) : Str := Str.join (Str.ofString " | ") (List.zipWith partS ds T)
theorem tl_dot : tl (Str.ofString ".") = [46] := by rw [tl_ofString]; rfl
theorem tl_sp : tl (Str.ofString " ") = [32] := by rw [tl_ofString]; rfl
theorem tl_bar : tl (Str.ofString " | ") = [32, 124, 32] := by rw [tl_ofString]; rfl
theorem plS_free {p : Pl} {s : Nat} (h : s < 45 ∨ 57 < s) : s ∉ tl (plS p) := by
  unfold plS
  rw [tl_append, tl_append, tl_dot, List.mem_append, List.mem_append, List.mem_singleton]
  rintro ((e | e) | e)
  · exact numS_free h e
  · omega
  · exact numS_free h e
theorem split_part (d : Int) (row : List Pl) : Txt.split (partS d row) (Str.ofString " ") = numS d :: row.map plS := by
  unfold partS
  rw [← join_eq]
  refine split_join (s := 32) (S := []) tl_sp (by decide +kernel) (by simp) fun p hp => ?_
  rcases List.mem_cons.mp hp with rfl | hp
  · exact numS_free (by omega)
  · obtain ⟨q, _, rfl⟩ := List.mem_map.mp hp
    exact plS_free (by omega)
theorem joinL_free {S : List Nat} {s : Nat} (hs : s ∉ S) : ∀ {l : List (List Nat)}, (∀ p ∈ l, s ∉ p) → s ∉ joinL S l
  | [], _ => by simp [joinL]
  | [p], h => h p (List.mem_singleton.mpr rfl)
  | p :: q :: r, h => by
    show s ∉ p ++ (S ++ joinL S (q :: r))
    rw [List.mem_append, List.mem_append]
    rintro (e | e | e)
    · exact h p (List.mem_cons_self ..) e
    · exact hs e
    · exact joinL_free hs (fun z hz => h z (List.mem_cons_of_mem _ hz)) e
theorem partS_free {d : Int} {row : List Pl} {s : Nat} (h : 57 < s) : s ∉ tl (partS d row) := by
  unfold partS
  rw [tl_join, tl_sp]
  refine joinL_free (by simp; omega) fun p hp => ?_
  obtain ⟨q, hq, rfl⟩ := List.mem_map.mp hp
  rcases List.mem_cons.mp hq with rfl | hq
  · exact numS_free (by omega)
  · obtain ⟨q, _, rfl⟩ := List.mem_map.mp hq
    exact plS_free (by omega)
/-- ' | ' does not begin in a text without a bar -/
theorem bar_free {p q : List Nat} (h : 124 ∉ p) (hq : q = [] ∨ ∃ r, q = 32 :: r) : ∀ i, i < p.length → pre [32, 124, 32] ((p ++ q).drop i) = false := fun i hi => by
  have e : (p ++ q).drop i = p.drop i ++ q := List.drop_append_of_le_length (by omega)
  rw [e]
  have hd : 124 ∉ p.drop i := fun z => h (List.mem_of_mem_drop z)
  have ne : p.drop i ≠ [] := fun z => by have := congrArg List.length z; rw [List.length_drop, List.length_nil] at this; omega
  match hp : p.drop i with
  | [] => exact absurd hp ne
  | [c] =>
    rcases hq with rfl | ⟨r, rfl⟩
    · simp [pre]
    · cases r with
      | nil => simp [pre]
      | cons b r => simp [pre]
  | c :: b :: r =>
    rw [hp] at hd
    have : b ≠ 124 := fun z => hd (by rw [z]; simp)
    simp [pre, this]
theorem spl_bar : ∀ {l : List (List Nat)}, l ≠ [] → (∀ p ∈ l, 124 ∉ p) → spl [32, 124, 32] 0 [] (joinL [32, 124, 32] l) = l
  | [], h, _ => absurd rfl h
  | [p], _, h => by
    show spl [32, 124, 32] 0 [] p = [p]
    have k := bar_free (h p (List.mem_singleton.mpr rfl)) (.inl rfl)
    rw [List.append_nil] at k
    rw [spl_last k, List.nil_append]
  | p :: q :: r, _, h => by
    show spl [32, 124, 32] 0 [] (p ++ ([32, 124, 32] ++ joinL [32, 124, 32] (q :: r))) = p :: q :: r
    rw [spl_part (by simp) (bar_free (h p (List.mem_cons_self ..)) (.inr ⟨_, rfl⟩)), List.nil_append, spl_bar (by simp) fun z hz => h z (List.mem_cons_of_mem _ hz)]
theorem split_bar {l : List Str} (ne : l ≠ []) (h : ∀ p ∈ l, 124 ∉ tl p) : Txt.split (Str.join (Str.ofString " | ") l) (Str.ofString " | ") = l := by
  refine map_tl_inj ?_
  rw [split_spl _ _ (by rw [tl_bar]; simp) (kind_ok (by decide +kernel)), tl_join, tl_bar]
  refine spl_bar (fun e => ne (List.map_eq_nil_iff.mp e)) fun p hp => ?_
  obtain ⟨z, hz, rfl⟩ := List.mem_map.mp hp
  exact h z hz
theorem split_map {ds : List Int} {T : List (List Pl)} (ne : List.zipWith partS ds T ≠ []) : Txt.split (mapS ds T) (Str.ofString " | ") = List.zipWith partS ds T :=
  split_bar ne fun p hp => by
    obtain ⟨i, hi, e⟩ := List.mem_iff_getElem.mp hp
    rw [List.getElem_zipWith] at e
    rw [← e]
    exact partS_free (by omega)
theorem plS_part {p : Pl} : Txt.partition (plS p) (Str.ofString ".") = (numS p.1, Str.ofString ".", numS p.2) ∨ ¬ 0 ≤ p.1 := by
  by_cases h : 0 ≤ p.1
  · refine .inl (partition_app (s := 46) (S := []) tl_dot ?_)
    obtain ⟨n, e⟩ := Int.eq_ofNat_of_zero_le h
    rw [e, tl_numS]
    exact numL_free (by omega)
  · exact .inr h
/-! ### lengths -/
theorem len_app (x y : Str) : (x ++ y).length = x.length + y.length := by rw [len_tl, len_tl, len_tl, tl_append, List.length_append]
theorem plS_len {p : Pl} (h1 : p.1.natAbs < 10 ^ 31) (h2 : p.2.natAbs < 10 ^ 31) : (plS p).length ≤ 65 := by
  unfold plS
  rw [len_app, len_app]
  have a := numS_len (k := 31) (by decide) h1
  have b := numS_len (k := 31) (by decide) h2
  have c : (Str.ofString ".").length = 1 := by rw [len_tl, tl_dot]; rfl
  omega
theorem join_len (y : Str) : ∀ l : List Str, (Str.join y l).length ≤ (l.map (·.length)).sum + l.length * y.length
  | [] => by simp [Str.join, Str.empty, Str.length]
  | [x] => by simp [Str.join]
  | x :: z :: r => by
    show (x ++ y ++ Str.join y (z :: r)).length ≤ _
    rw [len_app, len_app]
    have ih := join_len y (z :: r)
    simp only [List.map_cons, List.sum_cons, List.length_cons] at ih ⊢
    rw [Nat.succ_mul]
    omega
/-- numbers that a text holds -/
def Num31 (p : Pl) : Prop := p.1.natAbs < 10 ^ 31 ∧ p.2.natAbs < 10 ^ 31
theorem pls_sum : ∀ {row : List Pl}, (∀ p ∈ row, Num31 p) → ((row.map plS).map (·.length)).sum ≤ 65 * row.length
  | [], _ => by simp
  | p :: r, h => by
    have a := plS_len (h p (List.mem_cons_self ..)).1 (h p (List.mem_cons_self ..)).2
    have b := pls_sum (row := r) fun q hq => h q (List.mem_cons_of_mem _ hq)
    simp only [List.map_cons, List.sum_cons, List.length_cons] at b ⊢
    omega
theorem part_sum {d : Int} {row : List Pl} (hd : d.natAbs < 10 ^ 31) (h : ∀ p ∈ row, Num31 p) (hl : row.length ≤ 2000) :
    (((numS d :: row.map plS)).map (·.length)).sum + (numS d :: row.map plS).length * (Str.ofString " ").length ≤ 140000 := by
  have a := numS_len (k := 31) (by decide) hd
  have b := pls_sum h
  have c : (Str.ofString " ").length = 1 := by rw [len_tl, tl_sp]; rfl
  rw [c, List.map_cons, List.sum_cons, List.length_cons, List.length_map]
  omega
theorem partS_len {d : Int} {row : List Pl} (hd : d.natAbs < 10 ^ 31) (h : ∀ p ∈ row, Num31 p) (hl : row.length ≤ 2000) : (partS d row).length ≤ 140000 :=
  Nat.le_trans (join_len _ _) (part_sum hd h hl)
/-- a map whose text can be written -/
structure Wr (ds : List Int) (T : List (List Pl)) : Prop where
  len : T.length = ds.length
  lo : 1 ≤ ds.length
  hi : ds.length ≤ 6
  dr : ∀ d ∈ ds, d.natAbs < 10 ^ 30
  num : ∀ row ∈ T, row.length ≤ 2000 ∧ ∀ p ∈ row, 0 ≤ p.1 ∧ 0 ≤ p.2 ∧ p.1.natAbs < 10 ^ 30 ∧ p.2.natAbs < 10 ^ 30
theorem Okm.wr {ds : List Int} {T : List (List Pl)} (o : Okm ds T) : Wr ds T := by
  refine ⟨o.len, o.lo, o.hi, fun d hd => ?_, fun row hr => ?_⟩
  · obtain ⟨i, hi, e⟩ := List.mem_iff_getElem.mp hd
    obtain ⟨row, d', h1, h2⟩ := o.both hi
    have e' : d = d' := Option.some.inj ((List.getElem?_eq_some_iff.mpr ⟨hi, e⟩).symm.trans h2)
    subst e'
    have := o.drift h1 h2
    have : d.natAbs ≤ 2000 := by omega
    exact Nat.lt_of_le_of_lt this (by decide)
  · obtain ⟨i, hi, e⟩ := List.mem_iff_getElem.mp hr
    obtain ⟨row', d, h1, h2⟩ := o.both (o.len ▸ hi)
    have e' : row = row' := Option.some.inj ((List.getElem?_eq_some_iff.mpr ⟨hi, e⟩).symm.trans h1)
    subst e'
    refine ⟨(o.drift h1 h2).2.2, fun p hp => ?_⟩
    obtain ⟨j, hj, ej⟩ := List.mem_iff_getElem.mp hp
    have hf := Okm.in_row (ds := ds) h1 (List.getElem?_eq_some_iff.mpr ⟨hj, ej⟩)
    obtain ⟨a1, a2, a3⟩ := o.pl hf
    obtain ⟨k, row', d', e1, g1, g2, _, lt⟩ := (o.mem p).mp hf
    have := o.start_le g1 g2
    have h6 := o.hi
    have b1 : p.1.natAbs ≤ 2000 := by omega
    have b2 : p.2.natAbs ≤ 2000 := by omega
    exact ⟨a1, a3, Nat.lt_of_le_of_lt b1 (by decide), Nat.lt_of_le_of_lt b2 (by decide)⟩
theorem Wr.num31 {ds : List Int} {T : List (List Pl)} (o : Wr ds T) {row : List Pl} (h : row ∈ T) : row.length ≤ 2000 ∧ ∀ p ∈ row, Num31 p :=
  ⟨(o.num row h).1, fun p hp => ⟨Nat.lt_trans ((o.num row h).2 p hp).2.2.1 (by decide), Nat.lt_trans ((o.num row h).2 p hp).2.2.2 (by decide)⟩⟩
theorem parts_sum : ∀ {ds : List Int} {T : List (List Pl)}, (∀ d ∈ ds, d.natAbs < 10 ^ 31) → (∀ row ∈ T, row.length ≤ 2000 ∧ ∀ p ∈ row, Num31 p) → ((List.zipWith partS ds T).map (·.length)).sum ≤ 140000 * ds.length
  | [], _, _, _ => by simp
  | _ :: _, [], _, _ => by simp
  | d :: ds, r :: T, h1, h2 => by
    have a := partS_len (h1 d (List.mem_cons_self ..)) (h2 r (List.mem_cons_self ..)).2 (h2 r (List.mem_cons_self ..)).1
    have b := parts_sum (ds := ds) (T := T) (fun x hx => h1 x (List.mem_cons_of_mem _ hx)) fun x hx => h2 x (List.mem_cons_of_mem _ hx)
    simp only [List.zipWith_cons_cons, List.map_cons, List.sum_cons, List.length_cons] at b ⊢
    omega
theorem Wr.sum {ds : List Int} {T : List (List Pl)} (o : Wr ds T) : ((List.zipWith partS ds T).map (·.length)).sum + (List.zipWith partS ds T).length * (Str.ofString " | ").length ≤ 840018 := by
  have a := parts_sum (ds := ds) (T := T) (fun d hd => Nat.lt_trans (o.dr d hd) (by decide)) fun row h => o.num31 h
  have c : (Str.ofString " | ").length = 3 := by rw [len_tl, tl_bar]; rfl
  rw [c, List.length_zipWith]
  have := o.hi
  have := o.len
  omega
theorem Wr.lenS {ds : List Int} {T : List (List Pl)} (o : Wr ds T) : (mapS ds T).length ≤ 840018 := Nat.le_trans (join_len _ _) o.sum
end L2.FK
/-! The numbers and places of texts. -/
namespace L2.FK
open PySem PySem.Spec PyProof.Rows L2.FL TL
/-- what stands for a text read as a number up to m -/
def NatR (t : Str) (m : Nat) (R : V → Prop) : Prop := (∀ n : Nat, tl t = numL n → n ≤ m → R (.int (n : Int))) ∧ ((∀ n : Nat, tl t = numL n → ¬ n ≤ m) → R .non)
theorem val_fold : ∀ (l : List Nat) (a : Nat), NumText.AllDigits l → l.foldl (fun acc c => acc * 10 + (c - 48)) a < (a + 1) * 10 ^ l.length
  | [], a, _ => by simp
  | c :: r, a, h => by
    have hc := h.head
    have ih := val_fold r (a * 10 + (c - 48)) h.tail
    rw [List.foldl_cons, List.length_cons, Nat.pow_succ]
    refine Nat.lt_of_lt_of_le ih ?_
    have e : (a + 1) * (10 ^ r.length * 10) = ((a + 1) * 10) * 10 ^ r.length := by rw [Nat.mul_comm (10 ^ r.length) 10, Nat.mul_assoc]
    rw [e]
    exact Nat.mul_le_mul_right _ (by omega)
theorem val_lt (l : List Nat) (h : NumText.AllDigits l) : NumText.digitsVal l < 10 ^ l.length := by
  have z := val_fold l 0 h
  rw [Nat.zero_add, Nat.one_mul] at z
  exact z
section
variable {P : Program} {w : World} {K : PySem.W.Frag} {mg : Str → Option Value} {base : Heap}
abbrev nNat : List Str := ["text", "most", "number"]
def spNat : Sp := fun vs H Q _ => ∃ (t : Str) (m : Nat), vs = [.str t, .int m] ∧ Asc t ∧ m < 10 ^ 40 ∧ t.length ≤ sizeLine ∧ NatR t m fun v => Q v H
theorem sc_nat : FnScope nNat ["text", "most"] (C8.fnScope t_natural_of) := C8.fnScope_by (by decide +kernel)
theorem ok_natural (h : Has K mg "natural_of" t_natural_of ["text", "most"]) (B : Bl mg) : C8.Cal P w K mg base 1 "natural_of" spNat [] := by
  refine cal_of h sc_nat (fun vs H Q E z => ?_) (fun f cdv A outer s H vs Q E hr z => ?_)
  · obtain ⟨t, m, rfl, _⟩ := z; rfl
  obtain ⟨t, m, rfl, ha, hm, hz, q1, q2⟩ := z
  have nd := sc_nat.nd
  refine ⟨_, (pss_cons (ps_if (PW.pt (pw_or (pt_not (pt_val (pe_m0 PySem.F.slot_str_isdigit PySem.F.type_str_isdigit mt_isdigit (pv 0)))) (pw_or1 (pt_cmpR op_gt (pe_callB call_len_str (by rfl) B.len bt_len (pa_cons (pv 0) pa_nil)) (pe_callB call_len_str (by rfl) B.len bt_len (pa_cons (pe_callTy call_str_int (by rfl) B.str bt_str (pa_cons (pv 1) pa_nil)) pa_nil)) (nomark _))))) (pss_one (ps_ret pe_non)) pss_nil)
    (pss_cons (ps_set (i := 2) nd rfl (.inl rfl) (pe_callTy call_int_str (by rfl) B.int bt_int (pa_cons (pv 0) pa_nil)))
    (pss_one (ps_ret (pe_ifExp (PW.pt (pw_and (pt_cmpR op_eq (pe_callTy call_str_int (by rfl) B.str bt_str (pa_cons (pv 2) pa_nil)) (pv 0) (nomark _)) (pw_and1 (pt_cmpR op_le (pv 2) (pv 1) (nomark _))))) (pv 2) pe_non))))), ?_⟩
  have lg (i : Int) (h : i.natAbs < 10 ^ 41) : i.natAbs.log2 < 1920 := by
    by_cases e : i.natAbs = 0
    · rw [e]; decide
    · exact (Nat.log2_lt e).mpr (Nat.lt_trans h (by decide +kernel))
  have lm : ((m : Int)).natAbs.log2 < 1920 := lg _ (by rw [Int.natAbs_natCast]; exact Nat.lt_trans hm (by decide +kernel))
  have em : (Str.ofString (toString ((m : Nat) : Int))).length = (numL m).length := by rw [len_tl, tl_num]
  have lm4 : (numL m).length ≤ 40 := numL_len (by decide) hm
  refine ⟨_, rfl, ⟨t, rfl⟩, t, rfl, rfl, trivial, _, rfl, ?_⟩
  refine ite2 (fun c1 => q2 fun n e _ => by rw [isd_num e] at c1; cases c1) (fun c1 => ⟨_, rfl, t, rfl, hz, _, rfl, _, rfl, lm, _, rfl, (by rw [em]; exact Nat.le_trans lm4 (by decide)), _, _, rfl, rfl, _, rfl, ?_⟩)
  have hd : Txt.isdigit t = true := by cases h : Txt.isdigit t <;> simp [h] at c1 ⊢
  refine ite2 (fun c2 => q2 fun n e hn => ?_) (fun c2 => ?_)
  · have c2 := of_decide_eq_true c2
    rw [em, len_tl, e] at c2
    have := numL_le hn
    omega
  have c2 := of_decide_eq_false (Bool.not_eq_true _ ▸ c2)
  rw [em] at c2
  have hl : t.length ≤ 40 := by omega
  have hi := dig_int ha hd (by omega)
  refine ⟨_, rfl, t, _, rfl, hi, by omega, ?_⟩
  have small : (NumText.digitsVal (tl t)) < 10 ^ 41 := by
    have z := val_lt (tl t) (dig_asc ha hd).1
    rw [len_tl] at hl
    exact Nat.lt_of_lt_of_le z (Nat.pow_le_pow_right (by decide) (by omega))
  refine ⟨_, rfl, _, rfl, lg _ (by rw [Int.natAbs_natCast]; exact small), _, rfl, rfl, _, rfl, ite2 (fun c3 => ⟨_, rfl, _, rfl, _, _, rfl, rfl, _, rfl, ite2 (fun c4 => ?_) (fun c4 => ?_)⟩) (fun c3 => ?_)⟩
  · have e : Str.ofString (toString ((NumText.digitsVal (tl t) : Nat) : Int)) = t := V.str.inj (of_decide_eq_true c3)
    exact ⟨_, rfl, q1 _ (by rw [← tl_num, e]) (by have := of_decide_eq_true c4; omega)⟩
  · refine q2 fun n e hn => c4 (decide_eq_true ?_)
    rw [e, numL_val]
    omega
  · refine q2 fun n e hn => c3 (decide_eq_true (congrArg V.str (ext_tl ?_)))
    rw [tl_num, e, numL_val]
/-! ### integer_of -/
theorem sw_iff (x y : Str) : Txt.startswith x y = true ↔ pre (tl y) (tl x) = true := by
  unfold Txt.startswith
  rw [Bool.and_eq_true, decide_eq_true_eq, Nat.zero_add]
  unfold PySem.Builtin.Str.subAt pre
  rw [Nat.zero_add, beq_iff_eq, beq_iff_eq, ← Array.toList_inj, Array.toList_extract]
  simp only [List.extract_eq_take_drop, List.drop_zero, Nat.sub_zero]
  rw [len_tl y]
  constructor
  · exact fun h => h.2
  · intro h
    refine ⟨?_, h⟩
    have e := congrArg List.length h
    rw [List.length_take] at e
    rw [len_tl]
    have e' : (tl y).length = y.cps.toList.length := rfl
    have e'' : (tl x).length = x.cps.toList.length := rfl
    omega
theorem tl_minus : tl (Str.ofString "-") = [45] := by rw [tl_ofString]; rfl
theorem sw_minus (t : Str) : Txt.startswith t (Str.ofString "-") = true ↔ ∃ r, tl t = 45 :: r := by
  rw [sw_iff, tl_minus]
  cases tl t with
  | nil => simp [pre]
  | cons c r => simp [pre]
/-- what stands for a text read as an integer up to m in size -/
def IntR (t : Str) (m : Nat) (R : V → Prop) : Prop := (∀ i : Int, t = numS i → i.natAbs ≤ m → R (.int i)) ∧ ((∀ i : Int, t = numS i → ¬ i.natAbs ≤ m) → R .non)
theorem tl_cut1 {t : Str} {c : Nat} {r : List Nat} (h : tl t = c :: r) : tl (cutS t (some 1) none) = r := by
  have hl : t.length = r.length + 1 := by rw [len_tl, h]; rfl
  have e : HT.sIx t.length 0 (some 1) = 1 := by
    have : 1 ≤ t.length := by omega
    simp [HT.sIx]; omega
  have e2 : HT.sIx t.length t.length none = t.length := by simp [HT.sIx]
  show ((tl t).drop _).take _ = r
  rw [e, e2, h, hl, List.drop_succ_cons, List.drop_zero]
  exact List.take_of_length_le (by omega)
theorem num_head (n : Nat) : ∀ r, numL n ≠ 45 :: r := fun r e => by
  have := numL_digits n 45 (by rw [e]; exact List.mem_cons_self ..)
  omega
abbrev nInt : List Str := ["text", "most", "size"]
def spInt : Sp := fun vs H Q _ => ∃ (t : Str) (m : Nat), vs = [.str t, .int m] ∧ Asc t ∧ m < 10 ^ 40 ∧ t.length ≤ sizeLine ∧ IntR t m fun v => Q v H
theorem sc_int : FnScope nInt ["text", "most"] (C8.fnScope t_integer_of) := C8.fnScope_by (by decide +kernel)
theorem ok_integer (h : Has K mg "integer_of" t_integer_of ["text", "most"]) (cN : C8.Cal P w K mg base 1 "natural_of" spNat []) : C8.Cal P w K mg base 2 "integer_of" spInt [] := by
  refine cal_of h sc_int (fun vs H Q E z => ?_) (fun f cdv A outer s H vs Q E hr z => ?_)
  · obtain ⟨t, m, rfl, _⟩ := z; rfl
  obtain ⟨t, m, rfl, ha, hm, hz, q1, q2⟩ := z
  have nd := sc_int.nd
  refine ⟨_, (pss_cons (ps_if (pt_not (pt_val (pe_m1 PySem.F.slot_str_startswith PySem.F.type_str_startswith mt_startswith (pv 0) pe_str))) (pss_one (ps_ret (C8.pe_c cN hr (by decide) rfl (pa_cons (pv 0) (pa_cons (pv 1) pa_nil))))) pss_nil)
    (pss_cons (ps_set (i := 2) nd rfl (.inl rfl) (C8.pe_c cN hr (by decide) rfl (pa_cons (pe_slice sl_str (pv 0) (po_some pe_int) po_none) (pa_cons (pv 1) pa_nil))))
    (pss_one (ps_ret (pe_ifExp (PW.pt (pw_or (pt_cmpR op_isN (pv 2) pe_non (nomark _)) (pw_or1 (pt_cmpR op_eq (pv 2) pe_int (nomark _))))) pe_non (pe_un un_neg (pv 2))))))), ?_⟩
  refine ⟨_, rfl, ⟨t, rfl⟩, t, _, rfl, rfl, _, rfl, ite2 (fun c1 => ⟨_, rfl, _, rfl, t, m, rfl, ha, hm, hz, fun n e le => ?_, fun no => ?_⟩) (fun c1 => ?_)⟩
  · exact q1 _ (ext_tl (e.trans (tl_numS n).symm)) (by rw [Int.natAbs_natCast]; exact le)
  · refine q2 fun i e le => ?_
    cases i with
    | ofNat n => exact no n (by rw [e]; exact tl_numS n) le
    | negSucc n =>
      have z : Txt.startswith t (Str.ofString "-") = true := (sw_minus t).mpr ⟨_, by rw [e]; exact tl_negS n⟩
      rw [z] at c1; cases c1
  have c1 : Txt.startswith t (Str.ofString "-") = true := by cases z : Txt.startswith t (Str.ofString "-") <;> simp [z] at c1 ⊢
  obtain ⟨r, er⟩ := (sw_minus t).mp c1
  have ec : tl (cutS t (some 1) none) = r := tl_cut1 er
  have lc : (cutS t (some 1) none).length ≤ t.length := cutS_length ..
  have neg {i : Int} (e : t = numS i) : ∃ k : Nat, i = -((k + 1 : Nat) : Int) ∧ r = numL (k + 1) := by
    cases i with
    | ofNat n => exact absurd (er.symm.trans ((congrArg tl e).trans (tl_numS n))).symm (num_head n r)
    | negSucc n => exact ⟨n, rfl, (List.cons.inj (er.symm.trans ((congrArg tl e).trans (tl_negS n)))).2⟩
  refine ⟨_, rfl, _, rfl, t, rfl, hz, _, rfl, _, m, rfl, (fun c hc => ha c (by rw [er]; exact List.mem_cons_of_mem _ (ec ▸ hc))), hm, Nat.le_trans lc hz, fun n e le => ?_, fun no => ?_⟩
  · refine ⟨_, rfl, rfl, _, rfl, ite2 (fun c => absurd (of_decide_eq_true c) (by simp)) (fun _ => ⟨_, rfl, rfl, _, rfl, ite2 (fun c2 => ?_) (fun c2 => ⟨_, rfl, _, rfl, ?_⟩)⟩)⟩
    · have c2 : (n : Int) = 0 := V.int.inj (of_decide_eq_true c2)
      refine q2 fun i ei _ => ?_
      obtain ⟨k, _, ek⟩ := neg ei
      have := numL_inj (e.symm.trans (ec.trans ek))
      omega
    · have c2 : (n : Int) ≠ 0 := fun z => c2 (decide_eq_true (congrArg V.int z))
      obtain ⟨k, rfl⟩ : ∃ k, n = k + 1 := ⟨n - 1, by omega⟩
      refine q1 _ (ext_tl ?_) (by omega)
      rw [tl_negS, er, ← ec, e]
  · refine ⟨_, rfl, rfl, _, rfl, ite2 (fun _ => ?_) (fun c => absurd (decide_eq_true rfl) c)⟩
    refine q2 fun i ei le => ?_
    obtain ⟨k, hk, ek⟩ := neg ei
    exact no (k + 1) (ec.trans ek) (by omega)
/-! ### place_of -/
def PlR (H : Hp) (t : Str) (m : Nat) (Q : VK) : Prop := (∀ i j : Nat, t = plS ((i : Int), (j : Int)) → i ≤ m → j ≤ m → ∀ r H', Same H H' → PlAt H' r ((i : Int), (j : Int)) → Q r H') ∧
  ((∀ i j : Nat, t = plS ((i : Int), (j : Int)) → ¬ (i ≤ m ∧ j ≤ m)) → ∀ H', Same H H' → Q .non H')
theorem mem_first {c : Nat} : ∀ {l : List Nat}, c ∈ l → ∃ a b, l = a ++ c :: b ∧ c ∉ a
  | [], h => nomatch h
  | x :: r, h => by
    by_cases e : x = c
    · exact ⟨[], r, by rw [e]; rfl, fun z => nomatch z⟩
    · have h' : c ∈ r := (List.mem_cons.mp h).resolve_left (Ne.symm e)
      obtain ⟨a, b, e1, n⟩ := mem_first h'
      exact ⟨x :: a, b, by rw [e1]; rfl, fun z => (List.mem_cons.mp z).elim (Ne.symm e) n⟩
theorem cut_first {c : Nat} : ∀ {a a' b b' : List Nat}, c ∉ a → c ∉ a' → a ++ c :: b = a' ++ c :: b' → a = a' ∧ b = b'
  | [], [], _, _, _, _, e => ⟨rfl, (List.cons.inj e).2⟩
  | [], x :: r, _, _, _, h', e => absurd (List.mem_cons.mpr (.inl (List.cons.inj e).1)) h'
  | x :: r, [], _, _, h, _, e => absurd (List.mem_cons.mpr (.inl (List.cons.inj e).1.symm)) h
  | x :: r, y :: r', _, _, h, h', e => by
    obtain ⟨e1, e2⟩ := List.cons.inj e
    obtain ⟨e3, e4⟩ := cut_first (fun z => h (List.mem_cons_of_mem _ z)) (fun z => h' (List.mem_cons_of_mem _ z)) e2
    exact ⟨by rw [e1, e3], e4⟩
/-- a text cut at its first point -/
theorem part_cases (t : Str) : (∃ a b : Str, t = a ++ Str.ofString "." ++ b ∧ 46 ∉ tl a ∧ Txt.partition t (Str.ofString ".") = (a, Str.ofString ".", b)) ∨ (46 ∉ tl t ∧ Txt.partition t (Str.ofString ".") = (t, Str.empty, Str.empty)) := by
  by_cases h : 46 ∈ tl t
  · obtain ⟨a, b, e, n⟩ : ∃ a b, tl t = a ++ 46 :: b ∧ 46 ∉ a := mem_first h
    have e1 : t = (⟨a.toArray⟩ : Str) ++ Str.ofString "." ++ ⟨b.toArray⟩ := ext_tl (by
      rw [tl_append, tl_append, tl_dot, List.append_assoc]
      exact e)
    refine .inl ⟨⟨a.toArray⟩, ⟨b.toArray⟩, e1, n, ?_⟩
    rw [e1]
    exact partition_app (s := 46) (S := []) tl_dot n
  · exact .inr ⟨h, partition_none (s := 46) (S := []) tl_dot h⟩
abbrev nPlo : List Str := ["text", "most", "lane", "dot", "at", "place"]
def spPlo : Sp := fun vs H Q _ => ∃ (t : Str) (m : Nat), vs = [.str t, .int m] ∧ Asc t ∧ m < 10 ^ 40 ∧ t.length ≤ sizeLine ∧ PlR H t m Q
theorem sc_plo : FnScope nPlo ["text", "most"] (C8.fnScope t_place_of) := C8.fnScope_by (by decide +kernel)
theorem ok_place_of (h : Has K mg "place_of" t_place_of ["text", "most"]) (cN : C8.Cal P w K mg base 1 "natural_of" spNat []) : C8.Cal P w K mg base 2 "place_of" spPlo [] := by
  refine cal_of h sc_plo (fun vs H Q E z => ?_) (fun f cdv A outer s H vs Q E hr z => ?_)
  · obtain ⟨t, m, rfl, _⟩ := z; rfl
  obtain ⟨t, m, rfl, ha, hm, hz, q1, q2⟩ := z
  have nd := sc_plo.nd
  refine ⟨_, (pss_cons (ps_asg (pe_partition (pv 0) pe_str) (g_tup K (hp := (pgs_cons (pg_name (i := 2) nd rfl (.inl rfl)) (pgs_cons (pg_name (i := 3) nd rfl (.inl rfl)) (pgs_cons (pg_name (i := 4) nd rfl (.inl rfl)) pgs_nil))))))
    (pss_cons (ps_set (i := 5) nd rfl (.inl rfl) (pe_tup (pa_cons (C8.pe_c cN hr (by decide) rfl (pa_cons (pv 2) (pa_cons (pv 1) pa_nil))) (pa_cons (C8.pe_c cN hr (by decide) rfl (pa_cons (pv 4) (pa_cons (pv 1) pa_nil))) pa_nil))))
    (pss_one (ps_ret (pe_ifExp (pt_cmpR (op_inQ K) pe_non (pv 5) rfl) pe_non (pv 5)))))), ?_⟩
  have asc {l : List Nat} (hs : ∀ c ∈ l, c ∈ tl t) {x : Str} (hx : tl x = l) : Asc x := fun c hc => ha c (hs c (hx ▸ hc))
  refine ⟨_, rfl, ⟨t, rfl⟩, t, _, rfl, rfl, rfl, hz, fun a fa => ?_⟩
  have sa := same_new fa (.tup [V.str (Txt.partition t (Str.ofString ".")).1, V.str (Txt.partition t (Str.ofString ".")).2.1, V.str (Txt.partition t (Str.ofString ".")).2.2])
  refine ⟨a, _, rfl, .inl (.inl upd_same), rfl, ?_⟩
  rcases part_cases t with ⟨A, B, et, nA, ep⟩ | ⟨nd', ep⟩
  · rw [ep] at sa ⊢
    have mA : ∀ c ∈ tl A, c ∈ tl t := fun c hc => by rw [et, tl_append, tl_append]; exact List.mem_append.mpr (.inl (List.mem_append.mpr (.inl hc)))
    have mB : ∀ c ∈ tl B, c ∈ tl t := fun c hc => by rw [et, tl_append]; exact List.mem_append.mpr (.inr hc)
    have zt : t.length = A.length + (Str.ofString ".").length + B.length := by rw [et, len_app, len_app]
    have cut {i j : Nat} (e : t = plS ((i : Int), (j : Int))) : tl A = numL i ∧ tl B = numL j := by
      have e1 : tl A ++ 46 :: tl B = numL i ++ 46 :: numL j := by
        have z := congrArg tl (et.symm.trans e)
        unfold plS at z
        rw [tl_append, tl_append, tl_append, tl_append, tl_dot, tl_numS, tl_numS, List.append_assoc, List.append_assoc] at z
        exact z
      exact cut_first nA (numL_free (by omega)) e1
    have le2 : 2 ≤ sizeLine := by decide
    refine ⟨_, _, rfl, _, _, rfl, _, _, rfl, rfl, _, rfl, _, rfl, A, m, rfl, asc mA rfl, hm, by omega, fun i ei li => ?_, fun ni => ?_⟩
    · refine ⟨_, rfl, _, rfl, B, m, rfl, asc mB rfl, hm, by omega, fun j ej lj => ?_, fun nj => ?_⟩
      · refine ⟨le2, fun p hp => ⟨_, rfl, p, _, rfl, .inr (.inl (.inl upd_same)), rfl, rfl, _, rfl, ite2 (fun c => nomatch c) (fun _ => ⟨_, rfl, q1 i j ?_ li lj _ _ (sa.trans (same_new hp _)) ⟨p, rfl, upd_same⟩⟩)⟩⟩
        rw [et]
        refine ext_tl ?_
        unfold plS
        rw [tl_append, tl_append, tl_append, tl_append, tl_numS, tl_numS, ei, ej]
      · refine ⟨le2, fun p hp => ⟨_, rfl, p, _, rfl, .inr (.inl (.inl upd_same)), rfl, rfl, _, rfl, ite2 (fun _ => q2 (fun i' j' e z => nj j' (cut e).2 z.2) _ (sa.trans (same_new hp _))) (fun c => absurd rfl c)⟩⟩
    · have no (i' j' : Nat) (e : t = plS ((i' : Int), (j' : Int))) : ¬ (i' ≤ m ∧ j' ≤ m) := fun z => ni i' (cut e).1 z.1
      refine ⟨_, rfl, _, rfl, B, m, rfl, asc mB rfl, hm, by omega, fun j ej lj => ?_, fun nj => ?_⟩
      · exact ⟨le2, fun p hp => ⟨_, rfl, p, _, rfl, .inr (.inl (.inl upd_same)), rfl, rfl, _, rfl, ite2 (fun _ => q2 no _ (sa.trans (same_new hp _))) (fun c => absurd rfl c)⟩⟩
      · exact ⟨le2, fun p hp => ⟨_, rfl, p, _, rfl, .inr (.inl (.inl upd_same)), rfl, rfl, _, rfl, ite2 (fun _ => q2 no _ (sa.trans (same_new hp _))) (fun c => absurd rfl c)⟩⟩
  · rw [ep] at sa ⊢
    have le2 : 2 ≤ sizeLine := by decide
    have no (i' j' : Nat) (e : t = plS ((i' : Int), (j' : Int))) : ¬ (i' ≤ m ∧ j' ≤ m) := fun _ => nd' (by
      rw [e]; unfold plS; rw [tl_append, tl_append, tl_dot]; simp)
    have emp (n : Nat) (e : tl Str.empty = numL n) : False := numL_ne n e.symm
    refine ⟨_, _, rfl, _, _, rfl, _, _, rfl, rfl, _, rfl, _, rfl, t, m, rfl, ha, hm, hz, fun i ei li => ?_, fun ni => ?_⟩
    · refine ⟨_, rfl, _, rfl, Str.empty, m, rfl, (fun c hc => nomatch hc), hm, by decide, fun j ej lj => (emp _ ej).elim, fun nj => ?_⟩
      exact ⟨le2, fun p hp => ⟨_, rfl, p, _, rfl, .inr (.inl (.inl upd_same)), rfl, rfl, _, rfl, ite2 (fun _ => q2 no _ (sa.trans (same_new hp _))) (fun c => absurd rfl c)⟩⟩
    · refine ⟨_, rfl, _, rfl, Str.empty, m, rfl, (fun c hc => nomatch hc), hm, by decide, fun j ej lj => (emp _ ej).elim, fun nj => ?_⟩
      exact ⟨le2, fun p hp => ⟨_, rfl, p, _, rfl, .inr (.inl (.inl upd_same)), rfl, rfl, _, rfl, ite2 (fun _ => q2 no _ (sa.trans (same_new hp _))) (fun c => absurd rfl c)⟩⟩
end
end L2.FK
/-! Maps as texts. -/
namespace L2.FK
open PySem PySem.Spec PyProof.Rows L2.FL TL
section
variable {P : Program} {w : World} {K : PySem.W.Frag} {mg : Str → Option Value} {base : Heap} {C : Addr}
theorem lg31 {i : Int} (h : i.natAbs < 10 ^ 31) : i.natAbs.log2 < 1920 := by
  by_cases e : i.natAbs = 0
  · rw [e]; decide
  · exact (Nat.log2_lt e).mpr (Nat.lt_trans h (by decide +kernel))
/-! ### place_text -/
abbrev nPT : List Str := ["place", "lane", "at"]
def spPT : Sp := fun vs H Q _ => ∃ (v : V) (p : Pl), vs = [v] ∧ PlAt H v p ∧ Num31 p ∧ Q (.str (plS p)) H
theorem sc_pt : FnScope nPT ["place"] (C8.fnScope t_place_text) := C8.fnScope_by (by decide +kernel)
theorem ok_place_text (h : Has K mg "place_text" t_place_text ["place"]) : C8.Cal P w K mg base 1 "place_text" spPT [] := by
  refine cal_of h sc_pt (fun vs H Q E z => ?_) (fun f cdv A outer s H vs Q E hr z => ?_)
  · obtain ⟨v, p, rfl, _⟩ := z; rfl
  obtain ⟨v, p, rfl, ⟨t, rfl, ht⟩, ⟨h1, h2⟩, q⟩ := z
  have nd := sc_pt.nd
  refine ⟨_, (pss_cons (ps_asg (pv 0) (g_tup K (hp := (pgs_cons (pg_name (i := 1) nd rfl (.inl rfl)) (pgs_cons (pg_name (i := 2) nd rfl (.inl rfl)) pgs_nil)))))
    (pss_one (ps_ret (pe_joined (PJ.cons (pe_fmt (pv 1)) (PJ.cons pe_str (PJ.cons (pe_fmt (pv 2)) PJ.nil))))))), ?_⟩
  refine ⟨_, rfl, t, _, rfl, .inl (.inl ht), rfl, ?_⟩
  refine ⟨_, _, rfl, _, _, rfl, rfl, ?_⟩
  have n1 := numS_len (k := 31) (by decide) h1
  have n2 := numS_len (k := 31) (by decide) h2
  have c : (Str.ofString ".").length = 1 := by rw [len_tl, tl_dot]; rfl
  have em (x : Str) : Str.empty ++ x = x := ext_tl (by rw [tl_append]; rfl)
  have z33 : 100 ≤ sizeLine := by decide
  refine ⟨_, rfl, .inr ⟨_, rfl, lg31 h1, _, rfl, ?_, _, rfl, ?_, _, rfl, .inr ⟨_, rfl, lg31 h2, _, rfl, ?_, ?_⟩⟩⟩
  · rw [em]; exact Nat.le_trans n1 (by decide)
  · rw [em, len_app]; exact Nat.le_trans (Nat.add_le_add n1 (Nat.le_of_eq c)) (by decide)
  · rw [em]; exact Nat.le_trans (plS_len h1 h2) (by decide)
  · rw [em]; exact q
/-! ### part_text -/
abbrev nPart : List Str := ["drift", "row", "place"]
def spPart : Sp := fun vs H Q _ => ∃ (d : Int) (v : V) (row : List Pl), vs = [.int d, v] ∧ RowAt H v row ∧ d.natAbs < 10 ^ 31 ∧ (∀ p ∈ row, Num31 p) ∧ row.length ≤ 2000 ∧ ∀ H', Same H H' → Q (.str (partS d row)) H'
theorem sc_part : FnScope nPart ["drift", "row"] (C8.fnScope t_part_text) := C8.fnScope_by (by decide +kernel)
theorem ok_part_text (h : Has K mg "part_text" t_part_text ["drift", "row"]) (B : Bl mg) (cP : C8.Cal P w K mg base 1 "place_text" spPT []) : C8.Cal P w K mg base 2 "part_text" spPart [] := by
  refine cal_of h sc_part (fun vs H Q E z => ?_) (fun f cdv A outer s H vs Q E hr z => ?_)
  · obtain ⟨d, v, row, rfl, _⟩ := z; rfl
  obtain ⟨d, v, row, rfl, ⟨a, us, rfl, ha, hp⟩, hd, hn, hl, q⟩ := z
  have nd := sc_part.nd
  refine ⟨_, (pss_one (ps_ret (pe_join pe_str (pe_op op_cat (pe_lst (pa_cons (pe_callTy call_str_int (by rfl) B.str bt_str (pa_cons (pv 0) pa_nil)) pa_nil)) (pe_lc (own := [("place", 2)]) (g := (gName 2)) (tt := tYes) rfl nd (n_list K (pv 1)) (blkOk_by (own := [("place", 2)]) (N := nPart) (sc := C8.fnScope t_part_text) (by decide +kernel)) (fun _ _ _ _ _ => (pg_name (i := 2) nd rfl (.inl rfl))) (fun _ _ _ _ _ => pts_nil) (fun _ _ _ _ _ => (C8.pe_c cP hr (by decide) rfl (pa_cons (pv 2) pa_nil)))))))), ?_⟩
  refine ⟨⟨_, rfl⟩, _, rfl, _, rfl, lg31 hd, (by show 1 ≤ sizeLine; decide), fun l hl1 => ?_⟩
  have nal : a ≠ l := ne_of_none ha hl1
  have ha1 : (upd H l (.lst [V.str (numS d)])) a = some (.lst us) := by rw [upd_ne nal]; exact ha
  have hl' := paired_len hp
  refine ⟨_, rfl, a, rfl, ⟨_, SqL.of ha1⟩, fun D hD => ?_⟩
  have naD : a ≠ D := ne_of_none ha1 hD
  have nlD : l ≠ D := ne_of_none upd_same hD
  have sD : Same H (upd (upd H l (.lst [V.str (numS d)])) D (.lst [])) := (same_new hl1 _).trans (same_new hD _)
  refine lc_it (walk_list (K := K) (a := a) (xs := us)) (fun i H' => H' = upd (upd H l (.lst [V.str (numS d)])) D (.lst ((row.take i).map fun p => V.str (plS p)))) (by rw [List.take_zero]; rfl) ?_ ?_ ?_
  · rintro i H' _ rfl; exact SqL.of (by rw [upd_ne naD]; exact ha1)
  · rintro i x H2 H3 hi rfl ⟨rfl, hx⟩
    obtain ⟨p, hrow, hpl⟩ := paired_get hp i hx
    refine ⟨rfl, _, rfl, x, p, rfl, ?_, hn p (List.mem_of_getElem? hrow), _, upd_same, snoc_le (by rw [List.length_map, List.length_take]; omega), ?_⟩
    · exact hpl.mono ((same_new hl1 _).trans (same_new hD _))
    · rw [upd_upd, take_snoc hrow, List.map_append]; rfl
  · rintro H2 rfl
    rw [hl', List.take_length]
    refine ⟨l, D, [V.str (numS d)], _, rfl, rfl, by rw [upd_ne nlD]; exact upd_same, upd_same, ?_, fun t ht => ?_⟩
    · rw [List.length_map]
      have : (2001 : Nat) ≤ sizeLine := by decide
      show 1 + row.length ≤ sizeLine
      omega
    · have sF : Same H (upd (upd (upd H l (.lst [V.str (numS d)])) D (.lst (row.map fun p => V.str (plS p)))) t (.lst ([V.str (numS d)] ++ row.map fun p => V.str (plS p)))) :=
        ((same_new hl1 _).trans (same_new hD _)).trans (same_new ht _)
      have e : [V.str (numS d)] ++ row.map (fun p => V.str (plS p)) = (numS d :: row.map plS).map V.str := by
        rw [List.map_cons, List.map_map]; rfl
      refine ⟨_, t, numS d :: row.map plS, rfl, rfl, .inl (SqL.of (by rw [upd_same, e])), Nat.le_trans (part_sum hd hn hl) (by decide), ?_⟩
      rw [join_eq]
      exact q _ sF
/-! ### __str__ -/
abbrev sStr : Stmt := inClass sMap 10
abbrev nStr : List Str := ["self", "drift", "row"]
def spStr (C : Addr) : Sp := fun vs H Q _ => ∃ (v : V) (ds : List Int) (T : List (List Pl)), vs = [v] ∧ LMap C H v ds T ∧ Wr ds T ∧ ∀ H', Same H H' → Q (.str (mapS ds T)) H'
theorem sc_str : FnScope nStr ["self"] (C8.fnScope sStr) := C8.fnScope_by (by decide +kernel)
theorem ok_strB {f : Addr} {fd : FuncData} (X : Tx K mg C) (B : Bl mg) (F : C8.Fun K "__str__" "LaneMap.__str__" sStr f fd) (cP : C8.Cal P w K mg base 2 "part_text" spPart []) :
    FnOk P w K mg base C8.CX0 3 f fd ["self"] (spStr C) := by
  refine C8.fn0 F sc_str (fun vs H Q E z => ?_) (fun cdv A outer s H vs Q E hr z => ?_)
  · obtain ⟨v, ds, T, rfl, _⟩ := z; rfl
  obtain ⟨v, ds, T, rfl, ⟨p, dx, a1, v2, a3, a4, im, og, rfl, h1, h2, ⟨b, ws, rfl, hb, hp⟩, h4, h5, h6, h7⟩, W, q⟩ := z
  have nd := sc_str.nd
  refine ⟨_, (pss_one (ps_ret (pe_join pe_str (pe_lc (own := [("drift", 1), ("row", 2)]) (g := (gTup K 2 (gCons (gName 1) (gCons (gName 2) gNil)))) (tt := tYes) rfl nd (pi_zip (by rfl) B.zip (pa_cons (e_fld K (pv 0)) (pa_cons (e_fld K (pv 0)) pa_nil))) (blkOk_by (own := [("drift", 1), ("row", 2)]) (N := nStr) (sc := C8.fnScope sStr) (by decide +kernel)) (fun _ _ _ _ _ => (g_tup K (hp := (pgs_cons (pg_name (i := 1) nd rfl (.inl rfl)) (pgs_cons (pg_name (i := 2) nd rfl (.inl rfl)) pgs_nil))))) (fun _ _ _ _ _ => pts_nil) (fun _ _ _ _ _ => (C8.pe_c cP hr (by decide) rfl (pa_cons (pv 1) (pa_cons (pv 2) pa_nil)))))))), ?_⟩
  have lW := W.len
  have hlw := paired_len hp
  have zl : (List.zipWith partS ds T).length = ds.length := by rw [List.length_zipWith, lW, Nat.min_self]
  refine ⟨⟨_, rfl⟩, _, rfl, p, C, dx, _, _, rfl, h1, X.cl, X.nS, fl_shifts _ _ _ _, _, rfl, p, C, dx, _, _, rfl, h1, X.cl, X.nR, fl_rows _ _ _ _, a1, b, _, _, rfl, SqL.of h2, SqL.of hb, fun D hD => ?_⟩
  refine lc_it (walk_zip (K := K) (a := a1) (b := b) (xs := ds.map V.int) (ys := ws) (n := ds.length) (by rw [List.length_map, hlw, lW, Nat.min_self])) (fun i H' => Same H (del D H') ∧ H' D = some (.lst (((List.zipWith partS ds T).take i).map V.str))) ?_ ?_ ?_ ?_
  · exact ⟨by rw [del_upd]; exact same_del (Same.refl _) hD, upd_same⟩
  · rintro i H' _ ⟨s', _⟩; exact ⟨SqL.of (del_same _ _ (s' _ _ h2)), SqL.of (del_same _ _ (s' _ _ hb))⟩
  · rintro i x H3 H4 hi ⟨s3, hD3⟩ ⟨Tt, y1, y2, rfl, hT, rfl, e1, e2⟩
    dsimp only at e1 e2
    rw [List.getElem?_map, List.getElem?_eq_getElem hi] at e1
    cases e1
    obtain ⟨row, hrow, hr'⟩ := paired_get hp i e2
    have nT : Tt ≠ D := (ne_of_none hD3 hT).symm
    have hm : row ∈ T := List.mem_of_getElem? hrow
    refine ⟨Tt, _, rfl, .inl (.inl upd_same), rfl, _, _, rfl, _, _, rfl, rfl, rfl, _, rfl, _, rfl, _, y2, row, rfl, ?_, Nat.lt_trans (W.dr _ (List.getElem_mem hi)) (by decide), (W.num31 hm).2, (W.num31 hm).1, fun H5 s5 => ?_⟩
    · exact hr'.mono ((s3.trans del_same).trans (same_new hT _))
    · have h5 : H5 D = some (.lst (((List.zipWith partS ds T).take i).map V.str)) := s5 _ _ (by rw [upd_ne nT.symm]; exact hD3)
      refine ⟨_, h5, snoc_le (by have := W.hi; rw [List.length_map, List.length_take, zl]; omega), ?_, ?_⟩
      · rw [del_upd]
        refine s3.trans (same_dels ?_)
        exact (same_new hT _).trans s5
      · rw [upd_same, take_snoc (l := List.zipWith partS ds T) (x := partS ds[i] row) (by rw [List.getElem?_zipWith, List.getElem?_eq_getElem hi, hrow]), List.map_append]; rfl
  · rintro H' ⟨s', hD'⟩
    rw [← zl, List.take_length] at hD'
    refine ⟨_, D, _, rfl, rfl, .inl (SqL.of hD'), Nat.le_trans W.sum (by decide), ?_⟩
    rw [join_eq]
    exact q _ (s'.trans del_same)
/-! ### format_map -/
/-- what the class has of __str__ -/
structure StrM (K : PySem.W.Frag) (C f : Addr) : Prop where
  at_ : PySem.W.findIn K (.ref C) "__str__" = some (some (.ref f))
  fn : PySem.W.isFn K (.ref f) = true
abbrev nFmt : List Str := ["lane_map"]
theorem sc_fmt : FnScope nFmt ["lane_map"] (C8.fnScope t_format_map) := C8.fnScope_by (by decide +kernel)
theorem LMap.at {H : Hp} {v : V} {ds : List Int} {T : List (List Pl)} (h : LMap C H v ds T) : ∃ a dx fs, v = .ref a ∧ H a = some (.ins C dx fs) := by
  obtain ⟨p, dx, a1, v2, a3, a4, im, og, rfl, h1, _⟩ := h
  exact ⟨p, dx, _, rfl, h1⟩
theorem ok_format {f : Addr} {fd : FuncData} (h : Has K mg "format_map" t_format_map ["lane_map"]) (B : Bl mg) (F : FnOk P w K mg base C8.CX0 3 f fd ["self"] (spStr C)) (M : StrM K C f) (b : Binds K fd ["self"] []) :
    C8.Cal P w K mg base 6 "format_map" (spStr C) [] := by
  refine cal_of h sc_fmt (fun vs H Q E z => ?_) (fun f' cdv A outer s H vs Q E hr z => ?_)
  · obtain ⟨v, ds, T, rfl, _⟩ := z; rfl
  obtain ⟨v, ds, T, rfl, hv, W, q⟩ := z
  have nd := sc_fmt.nd
  obtain ⟨a, dx, fs, rfl, ha⟩ := hv.at
  refine ⟨_, (pss_one (ps_ret (pe_callTy (call_strO (E := C8.E0) F M.at_ M.fn b C8.pass0 hr) (by rfl) B.str bt_str (pa_cons (pv 0) pa_nil)))), ?_⟩
  exact ⟨_, rfl, a, dx, fs, rfl, ha, _, ds, T, rfl, hv, W, fun H' s' => ⟨_, rfl, q H' s'⟩⟩
theorem numS_inj {i j : Int} (h : numS i = numS j) : i = j := by
  have e := congrArg tl h
  cases i with
  | ofNat n =>
    rw [show Int.ofNat n = (n : Int) from rfl, tl_numS] at e
    cases j with
    | ofNat m => rw [show Int.ofNat m = (m : Int) from rfl, tl_numS] at e; exact congrArg Int.ofNat (numL_inj e)
    | negSucc m => rw [show Int.negSucc m = -((m + 1 : Nat) : Int) from rfl, tl_negS] at e; exact absurd e (num_head _ _)
  | negSucc n =>
    rw [show Int.negSucc n = -((n + 1 : Nat) : Int) from rfl, tl_negS] at e
    cases j with
    | ofNat m => rw [show Int.ofNat m = (m : Int) from rfl, tl_numS] at e; exact absurd e.symm (num_head _ _)
    | negSucc m =>
      rw [show Int.negSucc m = -((m + 1 : Nat) : Int) from rfl, tl_negS] at e
      have := numL_inj (List.cons.inj e).2
      have e2 : n = m := by omega
      rw [e2]
theorem numS_asc (i : Int) : Asc (numS i) := fun c hc => by
  have : ¬ (c < 45 ∨ 57 < c) := fun z => numS_free z hc
  omega
theorem plS_asc (p : Pl) : Asc (plS p) := fun c hc => by
  have : ¬ (c < 45 ∨ 57 < c) := fun z => plS_free z hc
  omega
theorem plS_inj {p q : Pl} (h1 : 0 ≤ p.1) (h2 : 0 ≤ q.1) (h : plS p = plS q) : p = q := by
  have z := congrArg tl h
  obtain ⟨a, ha⟩ := Int.eq_ofNat_of_zero_le h1
  obtain ⟨b, hb⟩ := Int.eq_ofNat_of_zero_le h2
  unfold plS at z
  rw [tl_append, tl_append, tl_append, tl_append, tl_dot, ha, hb, tl_numS, tl_numS, List.append_assoc, List.append_assoc] at z
  obtain ⟨e1, e2⟩ := cut_first (numL_free (n := a) (by omega)) (numL_free (n := b) (by omega)) z
  have e3 := numL_inj e1
  have e4 := numS_inj (ext_tl e2)
  exact Prod.ext (by rw [ha, hb, e3]) e4
theorem cutV_tail (x : V) (xs : List V) : cutV (x :: xs) (some 1) none = xs := by
  have e : HT.sIx (xs.length + 1) 0 (some 1) = 1 := by simp [HT.sIx] <;> omega
  have e2 : HT.sIx (xs.length + 1) (xs.length + 1) none = xs.length + 1 := by simp [HT.sIx]
  show ((x :: xs).drop _).take _ = xs
  rw [List.length_cons, e, e2, List.drop_succ_cons, List.drop_zero]
  exact List.take_of_length_le (by omega)
theorem shp_row (row : List Pl) : SeqAt.shaped (.list (row.map L2.FQ.plD)) = true := by
  unfold SeqAt.shaped
  have h := L2.FQ.depth_of (f := L2.FQ.plD) (n := 3) (fun p => by show PyData.depth (.tuple [.int p.1, .int p.2]) ≤ 3; simp [PyData.depth, PyData.depthAll]) row
  simp only [PyData.canLay0, L2.FQ.lay_of L2.FQ.lay_p, PyData.depth, Bool.true_and]
  exact decide_eq_true (by omega)
theorem no_none (row : List Pl) : ((row.map L2.FQ.plD).any fun z => PyData.eqv z .none) = false := by
  rw [List.any_map, List.any_eq_false]
  intro p _ h
  exact absurd h (by show ¬ PyData.eqv (.tuple [.int p.1, .int p.2]) .none = true; simp [PyData.eqv])
/-! ### read_part -/
abbrev M30 : Nat := 999999999999999999999999999999
def PrtAt (H : Hp) (v : V) (x : Int × List Pl) : Prop := ∃ t c, v = .ref t ∧ H t = some (.tup [.int x.1, c]) ∧ RowAt H c x.2
/-- one whose list is new -/
def PrtF (H0 H : Hp) (v : V) (x : Int × List Pl) : Prop := ∃ t c, v = .ref t ∧ H t = some (.tup [.int x.1, .ref c]) ∧ H0 c = none ∧ RowAt H (.ref c) x.2
abbrev nRP : List Str := ["part", "words", "drift", "goals", "word"]
def spRP : Sp := fun vs H Q _ => ∃ (d : Int) (row : List Pl), vs = [.str (partS d row)] ∧ d.natAbs < 10 ^ 30 ∧ row.length ≤ 2000 ∧ (∀ p ∈ row, 0 ≤ p.1 ∧ 0 ≤ p.2 ∧ p.1.natAbs < 10 ^ 30 ∧ p.2.natAbs < 10 ^ 30) ∧ ∀ r H', Same H H' → PrtF H H' r (d, row) → Q r H'
theorem sc_rp : FnScope nRP ["part"] (C8.fnScope t_read_part) := C8.fnScope_by (by decide +kernel)
theorem ok_read_part (h : Has K mg "read_part" t_read_part ["part"]) (B : Bl mg) (MW : ∃ t, mg "MOST_WRITTEN" = some (.int M30 t)) (cI : C8.Cal P w K mg base 2 "integer_of" spInt []) (cP : C8.Cal P w K mg base 2 "place_of" spPlo []) :
    C8.Cal P w K mg base 3 "read_part" spRP [] := by
  refine cal_of h sc_rp (fun vs H Q E z => ?_) (fun f cdv A outer s H vs Q E hr z => ?_)
  · obtain ⟨d, row, rfl, _⟩ := z; rfl
  obtain ⟨d, row, rfl, hd, hl, hn, q⟩ := z
  have nd := sc_rp.nd
  have hu65 : (A.deeper (envOfC "read_part" (C8.fnScope t_read_part) s.heap.objs.size f cdv)).units + 65 < cLine := by have := hr.un; omega
  obtain ⟨tw, hMW⟩ := MW
  refine ⟨_, (pss_cons (ps_set (i := 1) nd rfl (.inl rfl) (pe_split (pv 0) pe_str))
    (pss_cons (ps_set (i := 2) nd rfl (.inl rfl) (C8.pe_c cI hr (by decide) rfl (pa_cons (pe_ix (x_list K) (pv 1) pe_int (fun _ _ => rfl)) (pa_cons (pe_glob (v := .int M30) rfl hMW ⟨_, rfl⟩) pa_nil))))
    (pss_cons (ps_setLc (i := 3) (own := [("word", 4)]) (g := (gName 4)) (tt := tYes) rfl nd rfl rfl (sw_true rfl rfl rfl (by decide +kernel)) (n_list K (pe_slice sl_list (pv 1) (po_some pe_int) po_none)) (blkOk_by (own := [("word", 4)]) (N := nRP) (sc := C8.fnScope t_read_part) (by decide +kernel)) (fun _ _ _ _ _ => (pg_name (i := 4) nd rfl (.inl rfl))) (fun _ _ _ _ _ => pts_nil) (fun _ _ _ _ _ => (C8.pe_c cP hr (by decide) rfl (pa_cons (pv 4) (pa_cons (pe_glob (v := .int M30) rfl hMW ⟨_, rfl⟩) pa_nil)))))
    (pss_cons (ps_if (PW.pt (pw_or (pt_cmpR op_isN (pv 2) pe_non (nomark _)) (pw_or1 (pt_cmpR (op_inD hu65) pe_non (pv 3) rfl)))) (pss_one (ps_ret pe_non)) pss_nil)
    (pss_one (ps_ret (pe_tup (pa_cons (pv 2) (pa_cons (pv 3) pa_nil))))))))), ?_⟩
  have hn31 : ∀ p ∈ row, Num31 p := fun p hp => ⟨Nat.lt_trans (hn p hp).2.2.1 (by decide), Nat.lt_trans (hn p hp).2.2.2 (by decide)⟩
  have zl := partS_len (d := d) (row := row) (Nat.lt_trans hd (by decide)) hn31 hl
  refine ⟨_, rfl, ⟨_, rfl⟩, _, _, rfl, rfl, (by decide +kernel), Nat.le_trans (Nat.add_le_add_right zl 2) (by decide), fun l hl1 => ?_⟩
  rw [split_part]
  have s1 := same_new hl1 (.lst ((numS d :: row.map plS).map V.str))
  have g1 : upd H l (.lst ((numS d :: row.map plS).map V.str)) l = some (.lst ((numS d :: row.map plS).map V.str)) := upd_same
  generalize upd H l (.lst ((numS d :: row.map plS).map V.str)) = H1 at s1 g1
  have le19 : 2001 ≤ sizeLine := by decide
  have mlt : M30 < 10 ^ 40 := by decide +kernel
  have m30 {n : Nat} (h : n < 10 ^ 30) : n ≤ M30 := by
    have e : (10 : Nat) ^ 30 = M30 + 1 := (by decide +kernel)
    omega
  refine ⟨_, rfl, l, _, 0, .str (numS d), rfl, rfl, SqL.of g1, atI_nat (j := 0) rfl, numS d, M30, rfl, numS_asc d, mlt, Nat.le_trans (numS_len (k := 31) (by decide) (Nat.lt_trans hd (by decide))) (by decide), fun i ei _ => ?_, fun no => absurd (m30 hd) (no d rfl)⟩
  rw [← numS_inj ei]
  refine ⟨_, rfl, _, rfl, l, _, rfl, SqL.of g1, fun l2 h2 => ?_⟩
  have ec : cutV ((numS d :: row.map plS).map V.str) (some 1) none = (row.map plS).map V.str := cutV_tail _ _
  rw [ec]
  have s2 := s1.trans (same_new h2 (.lst ((row.map plS).map V.str)))
  have g2 : upd H1 l2 (.lst ((row.map plS).map V.str)) l2 = some (.lst ((row.map plS).map V.str)) := upd_same
  generalize upd H1 l2 (.lst ((row.map plS).map V.str)) = H2 at s2 g2
  refine ⟨l2, rfl, ⟨_, SqL.of g2⟩, fun D hD => ?_⟩
  refine lc_it (walk_list (K := K) (a := l2) (xs := (row.map plS).map V.str)) (fun i H' => Same H2 (del D H') ∧ ∃ us, H' D = some (.lst us) ∧ Paired (PlAt (del D H')) us (row.take i)) ?_ ?_ ?_ ?_
  · exact ⟨by rw [del_upd]; exact same_del (Same.refl _) hD, [], upd_same, by rw [List.take_zero]; exact .nil⟩
  · rintro i H' _ ⟨s', _⟩; exact SqL.of (del_same _ _ (s' _ _ g2))
  · rintro i x H3 H4 hi ⟨s', us, hu, hp'⟩ ⟨rfl, hx⟩
    rw [List.length_map, List.length_map] at hi
    have hx' : x = .str (plS row[i]) := by
      rw [List.getElem?_map, List.getElem?_map, List.getElem?_eq_getElem hi] at hx
      exact (Option.some.inj hx).symm
    subst hx'
    have hrow : row[i]? = some row[i] := List.getElem?_eq_getElem hi
    obtain ⟨p1, p2, p3, p4⟩ := hn _ (List.getElem_mem hi)
    have lp := plS_len (hn31 _ (List.getElem_mem hi)).1 (hn31 _ (List.getElem_mem hi)).2
    obtain ⟨x1, e1⟩ := Int.eq_ofNat_of_zero_le p1
    obtain ⟨x2, e2⟩ := Int.eq_ofNat_of_zero_le p2
    have ep : row[i] = ((x1 : Int), (x2 : Int)) := Prod.ext e1 e2
    refine ⟨rfl, _, rfl, plS row[i], M30, rfl, plS_asc _, mlt, Nat.le_trans lp (by decide), fun i1 j1 e _ _ r H5 s5 hr5 => ?_, fun no => absurd ⟨m30 (by rw [ep] at p3; exact p3), m30 (by rw [ep] at p4; exact p4)⟩ (no x1 x2 (congrArg plS ep))⟩
    have e' : row[i] = ((i1 : Int), (j1 : Int)) := plS_inj p1 (by show (0 : Int) ≤ i1; omega) e
    refine ⟨us, s5 _ _ hu, snoc_le (by rw [paired_len hp', List.length_take]; omega), ?_, _, upd_same, ?_⟩
    · rw [del_upd]; exact s'.trans (same_dels s5)
    · rw [del_upd, take_snoc hrow]
      have nr : ∀ t, r = .ref t → t ≠ D := fun t et z => by
        obtain ⟨t', et', ht'⟩ := hr5
        have : t = t' := V.ref.inj (et.symm.trans et')
        subst this; subst z
        rw [s5 _ _ hu] at ht'; cases ht'
      refine paired_app (paired_mono hp' fun _ _ z => z.mono (same_dels s5)) (.cons ?_ .nil)
      rw [e']
      obtain ⟨t', et', ht'⟩ := hr5
      exact ⟨t', et', by rw [del_ne (nr t' et')]; exact ht'⟩
  · rintro H3 ⟨s', us, hu, hp'⟩
    rw [List.length_map, List.length_map, List.take_length] at hp'
    have s3 : Same H H3 := s2.trans (s'.trans del_same)
    have hp3 : Paired (PlAt H3) us row := paired_mono hp' fun _ _ z => z.mono del_same
    refine ⟨_, rfl, rfl, _, rfl, ite2 (fun c => nomatch c) (fun _ => ⟨_, rfl, .none, _, .non, .lst (SqL.of hu) (L2.FQ.dp_pls hp3), rfl, shp_row row, _, rfl, ite2 (fun c => by rw [no_none] at c; cases c) (fun _ => ?_)⟩)⟩
    refine ⟨_, rfl, _, rfl, (by show 2 ≤ sizeLine; decide), fun t ht => ?_⟩
    exact q _ _ (s3.trans (same_new ht _)) ⟨t, D, rfl, upd_same, s2.free hD, D, us, rfl, same_new ht _ _ _ hu, paired_mono hp3 fun _ _ z => z.mono (same_new ht _)⟩
/-! ### read_parts -/
def PrtsAt (H : Hp) (v : V) (xs : List (Int × List Pl)) : Prop := ∃ a vs, v = .ref a ∧ H a = some (.lst vs) ∧ Paired (PrtAt H) vs xs
abbrev nRPs : List Str := ["text", "parts", "at", "part", "found"]
def spRPs : Sp := fun vs H Q _ => ∃ (ds : List Int) (T : List (List Pl)), vs = [.str (mapS ds T)] ∧ Wr ds T ∧ ∀ r H', Same H H' → PrtsAt H' r (ds.zip T) → Q r H'
theorem sc_rps : FnScope nRPs ["text"] (C8.fnScope t_read_parts) := C8.fnScope_by (by decide +kernel)
theorem ok_read_parts (h : Has K mg "read_parts" t_read_parts ["text"]) (B : Bl mg) (cR : C8.Cal P w K mg base 3 "read_part" spRP []) : C8.Cal P w K mg base 4 "read_parts" spRPs [] := by
  refine cal_of h sc_rps (fun vs H Q E z => ?_) (fun f cdv A outer s H vs Q E hr z => ?_)
  · obtain ⟨ds, T, rfl, _⟩ := z; rfl
  obtain ⟨ds, T, rfl, W, q⟩ := z
  have nd := sc_rps.nd
  refine ⟨_, (pss_cons (ps_set (i := 1) nd rfl (.inl rfl) (pe_lst pa_nil))
    (pss_cons (ps_for PassesOwn.never rfl (n_enum K rfl B.enumerate (pa_cons (pe_split (pv 0) pe_str) pa_nil)) (g_tup K (hp := (pgs_cons (pg_name (i := 2) nd rfl (.inl rfl)) (pgs_cons (pg_name (i := 3) nd rfl (.inl rfl)) pgs_nil))))
    (pss_cons (ps_set (i := 4) nd rfl (.inl rfl) (C8.pe_c cR hr (by decide) rfl (pa_cons (pv 3) pa_nil)))
    (pss_cons (ps_if (pt_cmpR op_isN (pv 4) pe_non (nomark _)) (pss_one ps_never) pss_nil)
    (pss_one (ps_expr (pe_bm PySem.F.plainAttrs_list PySem.F.slot_list_append PySem.F.type_list_append mt_append (pv 1) (pa_cons (pv 4) pa_nil)))))))
    (pss_one (ps_ret (pv 1))))), ?_⟩
  have lW := W.len
  have zl : (List.zipWith partS ds T).length = ds.length := by rw [List.length_zipWith, lW, Nat.min_self]
  have nz : List.zipWith partS ds T ≠ [] := fun e => by have := W.lo; rw [e] at zl; simp at zl; omega
  refine ⟨by show 0 ≤ sizeLine; decide, fun L hL => ?_⟩
  refine ⟨_, rfl, ⟨_, rfl⟩, _, _, rfl, rfl, (by decide +kernel), Nat.le_trans (Nat.add_le_add_right W.lenS 2) (by decide), fun l hl1 => ?_⟩
  rw [split_map nz]
  have nLl : L ≠ l := ne_of_none upd_same hl1
  refine ⟨l, _, rfl, SqL.of upd_same, ?_⟩
  have sL : Same H (del L (upd (upd H L (.lst [])) l (.lst ((List.zipWith partS ds T).map V.str)))) := by
    rw [del_upd_ne nLl.symm, del_upd]
    exact (same_del (Same.refl _) hL).trans (same_new (none_del hl1) _ |> fun z => by rw [del_upd] at z; exact z)
  have g0 : (upd (upd H L (.lst [])) l (.lst ((List.zipWith partS ds T).map V.str))) L = some (.lst []) := by rw [upd_ne nLl]; exact upd_same
  have gl : del L (upd (upd H L (.lst [])) l (.lst ((List.zipWith partS ds T).map V.str))) l = some (.lst ((List.zipWith partS ds T).map V.str)) := by rw [del_ne nLl.symm]; exact upd_same
  generalize upd (upd H L (.lst [])) l (.lst ((List.zipWith partS ds T).map V.str)) = H0 at sL g0 gl
  refine for_it (walk_enum (K := K) (a := l) (xs := (List.zipWith partS ds T).map V.str)) (fun i σ H' => Same (del L H0) (del L H') ∧ ∃ us x2 x3 x4, H' L = some (.lst us) ∧ Paired (PrtAt (del L H')) us ((ds.zip T).take i) ∧ σ = [some (.str (mapS ds T)), some (.ref L), x2, x3, x4]) ?_ ?_ ?_ ?_
  · exact ⟨Same.refl _, [], _, _, _, g0, by rw [List.take_zero]; exact .nil, rfl⟩
  · rintro i σ H' _ ⟨s', _⟩; exact SqL.of (of_del (s' _ _ gl)).1
  · rintro i x σ H2 H3 hi ⟨s', us, x2, x3, x4, hu, hp, rfl⟩ ⟨Tt, y1, y2, rfl, hT, rfl, e1, e2⟩
    cases e1
    rw [List.length_map, zl] at hi
    have hiT : i < T.length := lW ▸ hi
    have ey : y2 = .str (partS ds[i] T[i]) := by
      dsimp only at e2
      rw [List.getElem?_map, List.getElem?_zipWith, List.getElem?_eq_getElem hi, List.getElem?_eq_getElem hiT] at e2
      exact (Option.some.inj e2).symm
    subst ey
    have nT : Tt ≠ L := (ne_of_none hu hT).symm
    have hm := List.getElem_mem hiT
    refine ⟨Tt, _, rfl, .inl (.inl upd_same), rfl, _, _, rfl, _, _, rfl, rfl, ?_⟩
    refine ⟨_, rfl, ds[i], T[i], rfl, W.dr _ (List.getElem_mem hi), (W.num _ hm).1, (W.num _ hm).2, fun r H5 s5 hr5 => ?_⟩
    obtain ⟨t, c, rfl, ht, hc, hrow⟩ := hr5
    have hu4 : (upd H2 Tt (.tup [.int (i : Nat), .str (partS ds[i] T[i])])) L = some (.lst us) := by rw [upd_ne nT.symm]; exact hu
    have hu5 : H5 L = some (.lst us) := s5 _ _ hu4
    have nc : c ≠ L := fun z => by rw [z, hu4] at hc; cases hc
    have nt : t ≠ L := fun z => by rw [z, hu5] at ht; cases ht
    have s25 : Same (del L H2) (del L H5) := same_dels ((same_new hT _).trans s5)
    refine ⟨_, rfl, rfl, _, rfl, ite2 (fun c => nomatch c) (fun _ => ?_)⟩
    refine ⟨_, rfl, .inl ⟨rfl, _, SqL.of hu5⟩, _, rfl, L, us, _, rfl, rfl, hu5, ?_, ?_, ?_⟩
    · have hz := paired_len hp
      rw [List.length_take] at hz
      have := W.hi
      have : 6 < sizeLine := by decide
      omega
    · rw [del_upd]; exact s'.trans s25
    · refine ⟨_, _, _, _, upd_same, ?_, rfl⟩
      rw [del_upd, take_snoc (l := ds.zip T) (x := (ds[i], T[i])) (List.getElem?_zip_eq_some.mpr ⟨List.getElem?_eq_getElem hi, List.getElem?_eq_getElem hiT⟩)]
      refine paired_app (paired_mono hp fun _ _ ⟨t, c, e, ht, hr⟩ => ⟨t, c, e, s25 _ _ ht, hr.mono s25⟩) (.cons ⟨t, _, rfl, by rw [del_ne nt]; exact ht, ?_⟩ .nil)
      exact RowAt.delN hu5 (fun _ e => nomatch e) nc hrow
  · rintro σ H2 ⟨s', us, x2, x3, x4, hu, hp, rfl⟩
    rw [List.length_map, zl] at hp
    have ez : (ds.zip T).take ds.length = ds.zip T := List.take_of_length_le (by rw [List.length_zip]; omega)
    rw [ez] at hp
    exact ⟨_, rfl, q _ _ (sL.trans (s'.trans del_same)) ⟨L, us, rfl, hu, paired_mono hp fun _ _ ⟨t, c, e, ht, hr⟩ => ⟨t, c, e, (of_del ht).1, hr.mono del_same⟩⟩⟩
/-! ### parse_map -/
abbrev nPM : List Str := ["text", "parts", "lane_map", "drift", "goals"]
def spPM (C : Addr) : Sp := fun vs H Q _ => ∃ (ds : List Int) (T : List (List Pl)), vs = [.str (mapS ds T)] ∧ Okm ds T ∧ trimAll ds T = T ∧ ∀ r H', Same H H' → LMap C H' r ds T → Q r H'
theorem sc_pm : FnScope nPM ["text"] (C8.fnScope t_parse_map) := C8.fnScope_by (by decide +kernel)
theorem ok_parse_map (h : Has K mg "parse_map" t_parse_map ["text"]) (B : Bl mg) (cR : C8.Cal P w K mg base 4 "read_parts" spRPs []) (cF : C8.Cal P w K mg base 6 "format_map" (spStr C) []) (cM : C8.Mak P w K mg base 3 "LaneMap" C (spInit K C) []) :
    C8.Cal P w K mg base 7 "parse_map" (spPM C) [] := by
  refine cal_of h sc_pm (fun vs H Q E z => ?_) (fun f cdv A outer s H vs Q E hr z => ?_)
  · obtain ⟨ds, T, rfl, _⟩ := z; rfl
  obtain ⟨ds, T, rfl, O, tr, q⟩ := z
  have nd := sc_pm.nd
  refine ⟨_, (pss_cons (ps_set (i := 1) nd rfl (.inl rfl) (C8.pe_c cR hr (by decide) rfl (pa_cons (pv 0) pa_nil)))
    (pss_cons (ps_try_thru0 (pss_one (ps_set (i := 2) nd rfl (.inl rfl) (C8.pe_mk cM hr (by decide) rfl (pa_cons (pe_lc (own := [("drift", 3), ("goals", 4)]) (g := (gTup K 2 (gCons (gName 3) (gCons (gName 4) gNil)))) (tt := tYes) rfl nd (n_list K (pv 1)) (blkOk_by (own := [("drift", 3), ("goals", 4)]) (N := nPM) (sc := C8.fnScope t_parse_map) (by decide +kernel)) (fun _ _ _ _ _ => (g_tup K (hp := (pgs_cons (pg_name (i := 3) nd rfl (.inl rfl)) (pgs_cons (pg_name (i := 4) nd rfl (.inl rfl)) pgs_nil))))) (fun _ _ _ _ _ => pts_nil) (fun _ _ _ _ _ => (pv 3))) (pa_cons (pe_lc (own := [("drift", 3), ("goals", 4)]) (g := (gTup K 2 (gCons (gName 3) (gCons (gName 4) gNil)))) (tt := tYes) rfl nd (n_list K (pv 1)) (blkOk_by (own := [("drift", 3), ("goals", 4)]) (N := nPM) (sc := C8.fnScope t_parse_map) (by decide +kernel)) (fun _ _ _ _ _ => (g_tup K (hp := (pgs_cons (pg_name (i := 3) nd rfl (.inl rfl)) (pgs_cons (pg_name (i := 4) nd rfl (.inl rfl)) pgs_nil))))) (fun _ _ _ _ _ => pts_nil) (fun _ _ _ _ _ => (pv 4))) pa_nil))))))
    (pss_cons (ps_if (pt_cmpR op_ne (C8.pe_c cF hr (by decide) rfl (pa_cons (pv 2) pa_nil)) (pv 0) (nomark _)) (pss_one ps_never) pss_nil)
    (pss_one (ps_ret (pv 2)))))), ?_⟩
  refine ⟨_, rfl, ds, T, rfl, O.wr, fun r H1 s1 hr1 => ?_⟩
  obtain ⟨a, vs, rfl, ha, hp⟩ := hr1
  have lT := O.len
  have hl := paired_len hp
  have zl : (ds.zip T).length = ds.length := by rw [List.length_zip, lT, Nat.min_self]
  have get {i : Nat} {x : V} (h : vs[i]? = some x) : ∃ t c d row, x = .ref t ∧ H1 t = some (.tup [.int d, c]) ∧ ds[i]? = some d ∧ T[i]? = some row ∧ RowAt H1 c row := by
    obtain ⟨⟨d, row⟩, hz, t, c, e, ht, hr'⟩ := paired_get hp i h
    obtain ⟨z1, z2⟩ := List.getElem?_zip_eq_some.mp hz
    exact ⟨t, c, d, row, e, ht, z1, z2, hr'⟩
  have h6 := O.hi
  have le6 : 6 < sizeLine := by decide
  refine ⟨_, rfl, a, rfl, ⟨_, SqL.of ha⟩, fun D1 h1 => ?_⟩
  refine lc_it (walk_list (K := K) (a := a) (xs := vs)) (fun i H' => H' = upd H1 D1 (.lst ((ds.take i).map V.int))) (by rw [List.take_zero]; rfl) ?_ ?_ ?_
  · rintro i H' _ rfl; exact SqL.of (by rw [upd_ne (ne_of_none ha h1)]; exact ha)
  · rintro i x H2 H3 hi rfl ⟨rfl, hx⟩
    obtain ⟨t, c, d, row, rfl, ht, hd, hrow, hr'⟩ := get hx
    refine ⟨t, _, rfl, .inl (.inl (by rw [upd_ne (ne_of_none ht h1)]; exact ht)), rfl, _, _, rfl, _, _, rfl, rfl, rfl, _, rfl, _, upd_same, by rw [List.length_map, List.length_take]; omega, ?_⟩
    rw [upd_upd, take_snoc hd, List.map_append]; rfl
  rintro H2 rfl
  have e2 : ds.take vs.length = ds := by rw [hl, zl, List.take_length]
  rw [e2]
  have s2 := same_new h1 (.lst (ds.map V.int))
  have g2 : upd H1 D1 (.lst (ds.map V.int)) D1 = some (.lst (ds.map V.int)) := upd_same
  generalize upd H1 D1 (.lst (ds.map V.int)) = H2 at s2 g2
  refine ⟨_, rfl, a, rfl, ⟨_, SqL.of (s2 _ _ ha)⟩, fun D2 h2 => ?_⟩
  refine lc_it (walk_list (K := K) (a := a) (xs := vs)) (fun i H' => ∃ us, H' = upd H2 D2 (.lst us) ∧ Paired (RowAt H2) us (T.take i)) ⟨[], rfl, by rw [List.take_zero]; exact .nil⟩ ?_ ?_ ?_
  · rintro i H' _ ⟨us, rfl, _⟩; exact SqL.of (by rw [upd_ne (ne_of_none (s2 _ _ ha) h2)]; exact s2 _ _ ha)
  · rintro i x H3 H4 hi ⟨us, rfl, hu⟩ ⟨rfl, hx⟩
    obtain ⟨t, c, d, row, rfl, ht, hd, hrow, hr'⟩ := get hx
    have hz := paired_len hu
    rw [List.length_take] at hz
    refine ⟨t, _, rfl, .inl (.inl (by rw [upd_ne (ne_of_none (s2 _ _ ht) h2)]; exact s2 _ _ ht)), rfl, _, _, rfl, _, _, rfl, rfl, rfl, _, rfl, _, upd_same, by omega, us ++ [c], by rw [upd_upd], ?_⟩
    rw [take_snoc hrow]
    exact paired_app hu (.cons (hr'.mono s2) .nil)
  rintro H3 ⟨us, rfl, hu⟩
  have e3 : T.take vs.length = T := by rw [hl, zl, ← lT, List.take_length]
  rw [e3] at hu
  have s3 := same_new h2 (.lst us)
  have hG : RowsAt (upd H2 D2 (.lst us)) (.ref D2) T := ⟨D2, us, rfl, upd_same, paired_mono hu fun _ _ z => z.mono s3⟩
  have g3 := s3 _ _ g2
  have s13 : Same H (upd H2 D2 (.lst us)) := s1.trans (s2.trans s3)
  generalize upd H2 D2 (.lst us) = H3 at hG g3 s13
  intro x dx nx ndx nex
  have s4 : Same H3 (upd (upd H3 dx (.own x)) x (.ins C dx [])) := fun a o e => by rw [upd_ne (ne_of_none e nx), upd_ne (ne_of_none e ndx)]; exact e
  refine ⟨x, dx, D1, _, ds, T, rfl, upd_same, s4 _ _ g3, .inl (hG.mono s4), O, fun H5 k hL => ⟨rfl, ?_⟩⟩
  have s5 : Same H3 H5 := fun a o e => k _ _ (s4 _ _ e) (ne_of_none e nx)
  rw [tr] at hL
  refine ⟨_, rfl, _, ds, T, rfl, hL, O.wr, fun H6 s6 => ?_⟩
  refine ⟨_, rfl, rfl, _, rfl, ite2 (fun c => by simp at c) (fun _ => ?_)⟩
  exact ⟨_, rfl, q _ _ ((s13.trans s5).trans s6) (hL.mono s6)⟩
end
end L2.FK
/-! _law_number_in, _law_place_in. -/
namespace L2.FK
open PySem PySem.Spec PyProof.Rows L2.FL TL
theorem val_snoc (r : List Nat) (c : Nat) : NumText.digitsVal (r ++ [c]) = NumText.digitsVal r * 10 + (c - 48) := by
  show (r ++ [c]).foldl (fun acc c => acc * 10 + (c - 48)) 0 = _
  rw [List.foldl_append]; rfl
theorem numL_back : ∀ (k : Nat) (l : List Nat), l.length = k → NumText.AllDigits l → l ≠ [] → (l = [48] ∨ l.head? ≠ some 48) → numL (NumText.digitsVal l) = l := by
  intro k
  induction k with
  | zero => intro l e _ n; exact absurd (List.length_eq_zero_iff.mp e) n
  | succ k ih =>
    intro l e d n z
    obtain ⟨r, c, rfl⟩ : ∃ r c, l = r ++ [c] := ⟨l.dropLast, l.getLast n, (List.dropLast_concat_getLast n).symm⟩
    have dc : 48 ≤ c ∧ c ≤ 57 := d c (List.mem_append_right _ (List.mem_singleton.mpr rfl))
    have dr : NumText.AllDigits r := fun x hx => d x (List.mem_append_left _ hx)
    rw [val_snoc]
    by_cases er : r = []
    · subst er
      show numL (0 * 10 + (c - 48)) = [c]
      rw [numL_lt (by omega)]
      congr 1
      omega
    · have hr : r.head? ≠ some 48 := by
        rcases z with z | z
        · exfalso
          have := congrArg List.length z
          rw [List.length_append] at this
          have h0 : 0 < r.length := List.length_pos_iff.mpr er
          simp only [List.length_cons, List.length_nil] at this
          omega
        · cases r with
          | nil => exact absurd rfl er
          | cons x xs => exact z
      have ih := ih r (by rw [List.length_append] at e; simpa using e) dr er (.inr hr)
      have pos : NumText.digitsVal r ≠ 0 := fun e0 => by
        rw [e0, numL_lt (by omega)] at ih
        exact hr (by rw [← ih]; rfl)
      rw [numL_step (by omega), show (NumText.digitsVal r * 10 + (c - 48)) / 10 = NumText.digitsVal r by omega, show (NumText.digitsVal r * 10 + (c - 48)) % 10 = c - 48 by omega, ih]
      congr 2
      omega
section
variable {P : Program} {w : World} {K : PySem.W.Frag} {mg : Str → Option Value} {base : Heap}
abbrev nNi : List Str := ["_law_word", "_law_bare", "_law_sign"]
def spNi : Sp := fun vs H Q _ => ∃ (t : Str), vs = [.str t] ∧ Asc t ∧ t.length ≤ sizeLine ∧ ∀ H', Same H H' → IntR t (10 ^ 30 - 1) fun v => Q v H'
theorem sc_ni : FnScope nNi ["_law_word"] (C8.fnScope t__law_number_in) := C8.fnScope_by (by decide +kernel)
theorem ok_number_in (h : Has K mg "_law_number_in" t__law_number_in ["_law_word"]) (B : Bl mg) : C8.Cal P w K mg base 1 "_law_number_in" spNi [] := by
  refine cal_of h sc_ni (fun vs H Q E z => ?_) (fun f cdv A outer s H vs Q E hr z => ?_)
  · obtain ⟨t, rfl, _⟩ := z; rfl
  obtain ⟨t, rfl, ha, hz, q⟩ := z
  have nd := sc_ni.nd
  refine ⟨_, (C8.pss_cut (ps_set (i := 1) nd rfl (.inl rfl) (pe_ifExp (pt_cmpR op_eq (pe_slice sl_str (pv 0) po_none (po_some pe_int)) pe_str (nomark _)) (pe_slice sl_str (pv 0) (po_some pe_int) po_none) (pv 0)))
    (C8.pss_cut (ps_if (PW.pt (pw_or (pt_cmpR op_eq (pv 1) pe_str (nomark _)) (pw_or (pt_cmpR op_gt (pe_callB call_len_str (by rfl) B.len bt_len (pa_cons (pv 1) pa_nil)) pe_int (nomark _)) (pw_or1 (pt_not (pt_val (pe_callB (cr_all rfl) (by rfl) B.all bt_all (pa_cons (pe_lc (own := [("_law_sign", 2)]) (g := (gName 2)) (tt := tYes) rfl nd (pi_str (pv 1)) (blkOk_by (own := [("_law_sign", 2)]) (N := nNi) (sc := C8.fnScope t__law_number_in) (by decide +kernel)) (fun _ _ _ _ _ => (pg_name (i := 2) nd rfl (.inl rfl))) (fun _ _ _ _ _ => pts_nil) (fun _ _ _ _ _ => (pe_cmpR op_in_str (pv 2) pe_str rfl))) pa_nil)))))))) (pss_one (ps_ret pe_non)) pss_nil)
    (pss_one (ps_ret (pe_ifExp (PW.pt (pw_and (pt_cmpR op_eq (pe_ix ix_str (pv 1) pe_int (fun _ _ => rfl)) pe_str (nomark _)) (pw_and1 (pt_cmpR op_ne (pv 0) pe_str (nomark _))))) pe_non (pe_callTy call_int_str (by rfl) B.int bt_int (pa_cons (pv 0) pa_nil))))))), ?_⟩
  have fit : t.length ≤ sizeLine := hz
  have dig : ∀ c, c ∈ tl ("0123456789" : Str) ↔ 48 ≤ c ∧ c ≤ 57 := fun c => by
    rw [show tl ("0123456789" : Str) = [48, 49, 50, 51, 52, 53, 54, 55, 56, 57] by decide +kernel]
    simp only [List.mem_cons, List.not_mem_nil, or_false]
    omega
  -- the digits
  refine ⟨fun σ H' => H' = H ∧ ∃ bare : Str, ((∃ r, tl t = 45 :: r ∧ tl bare = r) ∨ ((∀ r, tl t ≠ 45 :: r) ∧ bare = t)) ∧ bare.length ≤ t.length ∧ ∃ x2, σ = [some (.str t), some (.str bare), x2], ?_, ?_⟩
  · have e1 : tl (cutS t none (some 1)) = (tl t).take 1 := by
      have h0 : HT.sIx t.length 0 none = 0 := by simp [HT.sIx]
      show ((tl t).drop _).take _ = _
      rw [h0, List.drop_zero, Nat.sub_zero]
      cases ht : tl t with
      | nil => rw [List.take_nil, List.take_nil]
      | cons c r =>
        have hl : t.length = r.length + 1 := by rw [len_tl, ht]; rfl
        have : HT.sIx t.length t.length (some 1) = 1 := by
          have : 1 ≤ t.length := by omega
          simp [HT.sIx]; omega
        rw [this]
    refine ⟨_, rfl, _, rfl, t, rfl, hz, rfl, _, rfl, ite2 (fun c => ?_) (fun c => ?_)⟩
    · have c := congrArg tl (V.str.inj (of_decide_eq_true c))
      rw [e1, tl_minus] at c
      obtain ⟨r, er⟩ : ∃ r, tl t = 45 :: r := by
        cases ht : tl t with
        | nil => rw [ht] at c; cases c
        | cons x r => rw [ht] at c; exact ⟨r, by rw [(List.cons.inj c).1]⟩
      exact ⟨_, rfl, _, rfl, t, rfl, hz, rfl, _, .inl ⟨r, er, tl_cut1 er⟩, cutS_length .., _, rfl⟩
    · refine ⟨_, rfl, rfl, t, .inr ⟨fun r er => ?_, rfl⟩, Nat.le_refl _, _, rfl⟩
      refine c (decide_eq_true (congrArg V.str (ext_tl ?_)))
      rw [e1, er, tl_minus]; rfl
  rintro σ H1 ⟨eH, bare, hb, hbl, x2, rfl⟩
  rw [eH]
  clear eH H1
  have fitb : bare.length ≤ sizeLine := Nat.le_trans hbl hz
  have num : ∀ i : Int, t = numS i → tl bare = numL i.natAbs := fun i e => by
    cases i with
    | ofNat n =>
      have e : t = numS ((n : Nat) : Int) := e
      rcases hb with ⟨r, er, _⟩ | ⟨_, rfl⟩
      · rw [e, tl_numS] at er; exact absurd er (num_head _ _)
      · rw [e, tl_numS]; rfl
    | negSucc n =>
      have e : t = numS (-((n + 1 : Nat) : Int)) := e
      rcases hb with ⟨r, er, eb⟩ | ⟨no, _⟩
      · rw [e, tl_negS] at er
        rw [eb, ← (List.cons.inj er).2]; rfl
      · exact absurd (by rw [e, tl_negS]) (no (numL (n + 1)))
  have non : ∀ H', Same H H' → (∀ i : Int, t = numS i → ¬ i.natAbs ≤ 10 ^ 30 - 1) → Q .non H' := fun H' s h => (q H' s).2 h
  refine ⟨fun σ H' => Same H H' ∧ (NumText.AllDigits (tl bare) ∧ tl bare ≠ [] ∧ bare.length ≤ 30) ∧ ∃ x2, σ = [some (.str t), some (.str bare), x2], ?_, ?_⟩
  · refine ⟨_, rfl, rfl, _, rfl, ite2 (fun c => iteT (non H (Same.refl _) fun i e => ?_)) (fun c => ?_)⟩
    · exfalso
      have c := congrArg tl (V.str.inj (of_decide_eq_true c))
      rw [num i e] at c
      exact numL_ne _ (c.trans (by decide +kernel))
    refine ⟨_, rfl, bare, rfl, fitb, _, _, rfl, rfl, _, rfl, ite2 (fun c2 => iteT (non H (Same.refl _) fun i e le => ?_)) (fun c2 => ?_)⟩
    · have c2 := of_decide_eq_true c2
      have z := numL_len (n := i.natAbs) (k := 30) (by decide) (by omega)
      rw [← num i e, ← len_tl] at z
      omega
    refine ⟨_, rfl, bare, rfl, fun D hD => ?_⟩
    refine lc_it (walk_str (z := bare)) (fun j H' => H' = upd H D (.lst ((((tl bare).take j).map fun c => decide (c ∈ tl ("0123456789" : Str))).map V.bl))) (by rw [List.take_zero]; rfl) ?_ ?_ ?_
    · rintro j H' _ _; trivial
    · rintro j x H2 H3 hj rfl ⟨rfl, c, hc, rfl⟩
      have hc' : (tl bare)[j]? = some c := by rw [← hc]; exact Array.getElem?_toList
      refine ⟨rfl, _, rfl, _, _, rfl, rfl, _, upd_same, (Nat.lt_of_le_of_lt (by rw [List.length_map, List.length_map, List.length_take]; exact Nat.min_le_left _ _) (Nat.lt_of_lt_of_le hj fitb)), ?_⟩
      rw [upd_upd, take_snoc hc', List.map_append, List.map_append]
      congr 2
      exact congrArg (fun b => _ ++ [V.bl b]) (PySem.StrLaws.found_one (Str.ofString "0123456789") c)
    rintro H2 rfl
    have lb : bare.cps.size = (tl bare).length := by rw [← len_tl]; rfl
    rw [lb, List.take_length]
    have sD := same_new hD (.lst (((tl bare).map fun c => decide (c ∈ tl ("0123456789" : Str))).map V.bl))
    refine ⟨D, _, rfl, SqL.of upd_same, _, rfl, ite2 (fun c3 => non _ sD fun i e => ?_) (fun c3 => ⟨sD, ?_, _, rfl⟩)⟩
    · exfalso
      have al : (((tl bare).map fun c => decide (c ∈ tl ("0123456789" : Str))).all id) = true := List.all_eq_true.mpr fun x hx => by
        obtain ⟨c, hc, rfl⟩ := List.mem_map.mp hx
        exact decide_eq_true ((dig c).mpr (numL_digits _ c (by rw [← num i e]; exact hc)))
      rw [al] at c3
      cases c3
    · have al : (((tl bare).map fun c => decide (c ∈ tl ("0123456789" : Str))).all id) = true := by
        cases z : (((tl bare).map fun c => decide (c ∈ tl ("0123456789" : Str))).all id) with
        | true => rfl
        | false => rw [z] at c3; exact absurd rfl c3
      refine ⟨fun x hx => ?_, fun e => c (decide_eq_true (congrArg V.str (ext_tl (e.trans (by decide +kernel))))), ?_⟩
      · exact (dig x).mp (of_decide_eq_true (List.all_eq_true.mp al _ (List.mem_map.mpr ⟨x, hx, rfl⟩)))
      · have c2 := of_decide_eq_false (Bool.not_eq_true _ ▸ c2)
        omega
  rintro σ H1 ⟨s1, ⟨dg, ne, le⟩, x2, rfl⟩
  obtain ⟨c0, r0, eb⟩ : ∃ c0 r0, tl bare = c0 :: r0 := by
    cases h : tl bare with
    | nil => exact absurd h ne
    | cons c r => exact ⟨c, r, rfl⟩
  have tle : t.length ≤ 31 := by
    rcases hb with ⟨r, er, e2⟩ | ⟨_, rfl⟩
    · rw [len_tl, er, List.length_cons, ← e2, ← len_tl]; omega
    · omega
  have fin : (tl bare = [48] → t = numS 0) → (tl bare = [48] ∨ (tl bare).head? ≠ some 48) → ∃ i : Int, intText? t = some i ∧ t = numS i ∧ i.natAbs ≤ 10 ^ 30 - 1 := fun z0 z => by
    have bk := numL_back _ _ rfl dg ne z
    have sm := val_lt _ dg
    rw [← len_tl] at sm
    have sm : NumText.digitsVal (tl bare) < 10 ^ 30 := Nat.lt_of_lt_of_le sm (Nat.pow_le_pow_right (by decide) le)
    rcases hb with ⟨r, er, e2⟩ | ⟨_, rfl⟩
    · subst e2
      refine ⟨_, PySem.intText_neg er dg ne (by omega), ?_, by omega⟩
      obtain ⟨k, hk⟩ : ∃ k, NumText.digitsVal (tl bare) = k + 1 := by
        cases h : NumText.digitsVal (tl bare) with
        | zero =>
          rw [h, numL_lt (by omega)] at bk
          have := congrArg tl (z0 bk.symm)
          rw [er, show numS (0 : Int) = numS ((0 : Nat) : Int) from rfl, tl_numS] at this
          exact absurd this.symm (num_head _ _)
        | succ k => exact ⟨k, rfl⟩
      rw [hk] at bk ⊢
      exact ext_tl (by rw [er, tl_negS, bk])
    · exact ⟨_, PySem.intText_digits dg ne (by omega), ext_tl (by rw [tl_numS]; exact bk.symm), by show ((NumText.digitsVal (tl bare) : Nat) : Int).natAbs ≤ 10 ^ 30 - 1; omega⟩
  have done' : (tl bare = [48] → t = numS 0) → (tl bare = [48] ∨ (tl bare).head? ≠ some 48) → ∃ a n, [V.str t] = [V.str a] ∧ intText? a = some n ∧ a.length ≤ 640 ∧ Q (V.int n) H1 := fun z0 z => by
    obtain ⟨i, h1, h2, h3⟩ := fin z0 z
    exact ⟨t, i, rfl, h1, by omega, (q H1 s1).1 i h2 h3⟩
  have one : ∀ c : Nat, (V.str ⟨#[c]⟩ = V.str (Str.ofString "0")) ↔ c = 48 := fun c => by
    constructor
    · intro e
      have z := congrArg tl (V.str.inj e)
      rw [show tl (⟨#[c]⟩ : Str) = [c] from rfl, show tl (Str.ofString "0") = [48] by decide +kernel] at z
      exact (List.cons.inj z).1
    · rintro rfl
      exact congrArg V.str (ext_tl (by decide +kernel))
  refine ⟨_, rfl, bare, 0, c0, rfl, rfl, fitb, (show atI bare.cps.toList ((0 : Nat) : Int) = some c0 from atI_nat (by rw [show bare.cps.toList = tl bare from rfl, eb]; rfl)), rfl, _, rfl, ite2 (fun c => ?_) (fun c => ?_)⟩
  · have c := (one _).mp (of_decide_eq_true c)
    subst c
    refine ⟨_, rfl, rfl, _, rfl, ite2 (fun c2 => ?_) (fun c2 => ⟨_, rfl, ?_⟩)⟩
    · have c2 : t ≠ Str.ofString "0" := fun e => by rw [e] at c2; simp at c2
      refine non H1 s1 fun i e _ => c2 ?_
      have z := num i e
      rw [eb] at z
      have i0 : i.natAbs = 0 := by
        by_cases h10 : i.natAbs < 10
        · rw [numL_lt h10] at z
          have := (List.cons.inj z).1
          omega
        · exfalso
          have : ∀ n, 0 < n → ∀ r, numL n ≠ 48 :: r := fun n => by
            induction n using Nat.strongRecOn with
            | _ n ih =>
              intro hn r e
              by_cases h : n < 10
              · rw [numL_lt h] at e
                have := (List.cons.inj e).1
                omega
              · rw [numL_step (by omega)] at e
                cases hh : numL (n / 10) with
                | nil => exact numL_ne _ hh
                | cons x xs =>
                  rw [hh] at e
                  have ex := (List.cons.inj e).1
                  subst ex
                  exact ih (n / 10) (by omega) (by omega) xs hh
          exact this _ (by omega) _ z.symm
      have : i = 0 := by omega
      subst this
      rw [e]; decide +kernel
    · have c2 : t = Str.ofString "0" := by
        cases h : decide (V.str t = V.str (Str.ofString "0")) with
        | true => exact V.str.inj (of_decide_eq_true h)
        | false => rw [h] at c2; simp at c2
      have e0 : t = numS 0 := c2.trans (by decide +kernel)
      have tb : tl bare = [48] := by
        have z := num 0 e0
        rw [z]; decide +kernel
      exact done' (fun _ => e0) (.inl tb)
  · have c : c0 ≠ 48 := fun e => c (decide_eq_true ((one _).mpr e))
    refine ⟨_, rfl, ?_⟩
    exact done' (fun e => by rw [eb] at e; exact absurd (List.cons.inj e).1 c) (.inr (by rw [eb]; intro e; exact c (Option.some.inj e)))
end
end L2.FK
/-! min of a tuple of two ints. -/
namespace L2
open PySem PySem.Spec PyProof.Rows PySem.W
theorem pair_of {i j : Int} {its : List Value} (rv : Vals [V.int i, V.int j] its) : ∃ t1 t2, its = [.int i t1, .int j t2] := by
  cases rv with
  | cons r1 r =>
    cases r with
    | cons r2 r3 =>
      cases r3
      obtain ⟨t1, rfl⟩ := r1
      obtain ⟨t2, rfl⟩ := r2
      exact ⟨t1, t2, rfl⟩
theorem alike_pair (i j : Int) : AlikeAll [.int i, .int j] := by
  have is : ∀ x ∈ [PyData.int i, .int j], ∃ a, x = .int a := fun x hx => by
    rcases List.mem_cons.mp hx with rfl | hx
    · exact ⟨_, rfl⟩
    · exact ⟨_, List.mem_singleton.mp hx⟩
  refine ⟨fun x hx y hy => ?_, fun x hx => ?_⟩
  · obtain ⟨a, rfl⟩ := is x hx
    obtain ⟨b, rfl⟩ := is y hy
    simp [alike]
  · obtain ⟨a, rfl⟩ := is x hx
    exact fun z => nomatch z
theorem min_pair (i j : Int) : minD (.int i) [.int j] = .int (min i j) := minD_ints i [j]
theorem reads_int {h : Heap} {v : Value} {m : Int} {bs : List Addr} (r : Reads h v (.int m) bs) : ∃ t, v = .int m t := by
  cases r with
  | int i t => exact ⟨t, rfl⟩
theorem depth_pair (i j : Int) : PyData.depthAll [.int i, .int j] ≤ 3 := by simp [PyData.depthAll, PyData.depth]
theorem call_minT2 {X : Cx} (hc : X.calm = true) (hu : X.A.units + 65 < cLine) : CallR X (.builtin "min") (fun xs H Q => ∃ p i j, xs = [V.ref p] ∧ H p = some (.tup [.int i, .int j]) ∧ Q (.int (min i j)) H) := by
  intro pins s σ H xs us Q I r h
  obtain ⟨p, i, j, rfl, hp, q⟩ := h
  obtain ⟨its, rv, pl, _⟩ := I.tuple (SqT.of hp)
  rw [Vals.ref1 r]
  obtain ⟨t1, t2, rfl⟩ := pair_of rv
  have hd := depth_pair i j
  have hl : X.A.units + 1 + PyData.depthAll [.int i, .int j] < cLine := Nat.lt_of_le_of_lt (by omega) hu
  have rd : ReadsAll s.heap [Value.int i t1, .int j t2] [.int i, .int j] _ := .cons (.int i t1) (.cons (.int j t2) .nil)
  have al := alike_pair i j
  have fin : ∀ (k : Nat) v h' tk bs, (#[Value.int i t1, .int j t2] : Array Value)[k]? = some v → Reads h' v (minD (.int i) [.int j]) bs → (∀ b o, s.heap.get? b = some o → h'.get? b = some o) → EP X pins σ Q v { s with heap := h', toks := tk } := fun k v h' tk bs _ rr hk => by
    rw [min_pair] at rr
    obtain ⟨t, rfl⟩ := reads_int rr
    exact ⟨.int (min i j), H, I.kept hk, ⟨_, rfl⟩, q⟩
  exact min_tuple_data (I.ok.hd hc) pl rd al hl fin
end L2
/-! _law_place_in. -/
namespace L2.FK
open PySem PySem.Spec PyProof.Rows L2.FL TL
theorem spl_back : ∀ (l acc : List Nat), joinL [46] (spl [46] 0 acc l) = acc ++ l ∧ spl [46] 0 acc l ≠ []
  | [], acc => by rw [spl_nil]; exact ⟨by simp [joinL], by simp⟩
  | c :: r, acc => by
    by_cases h : pre [46] (c :: r) = true
    · rw [spl_hit h]
      obtain ⟨z1, z2⟩ := spl_back r []
      have hc : c = 46 := by simp [pre] at h; exact h
      refine ⟨?_, by simp⟩
      cases e : spl [46] 0 [] r with
      | nil => exact absurd e z2
      | cons x xs =>
        rw [e] at z1
        show acc ++ ([46] ++ joinL [46] (x :: xs)) = _
        rw [z1, hc]; simp
    · have h : pre [46] (c :: r) = false := by cases z : pre [46] (c :: r) <;> simp [z] at h ⊢
      rw [spl_miss h]
      obtain ⟨z1, z2⟩ := spl_back r (acc ++ [c])
      exact ⟨by rw [z1, List.append_assoc]; rfl, z2⟩
section
variable {P : Program} {w : World} {K : PySem.W.Frag} {mg : Str → Option Value} {base : Heap}
abbrev nPi : List Str := ["_law_word", "_law_parts", "_law_pair"]
def spPi : Sp := fun vs H Q _ => ∃ (t : Str), vs = [.str t] ∧ Asc t ∧ t.length + 2 ≤ sizeLine ∧ PlR H t (10 ^ 30 - 1) Q
theorem sc_pi : FnScope nPi ["_law_word"] (C8.fnScope t__law_place_in) := C8.fnScope_by (by decide +kernel)
theorem ok_place_in (h : Has K mg "_law_place_in" t__law_place_in ["_law_word"]) (B : Bl mg) (cN : C8.Cal P w K mg base 1 "_law_number_in" spNi []) : C8.Cal P w K mg base 2 "_law_place_in" spPi [] := by
  refine cal_of h sc_pi (fun vs H Q E z => ?_) (fun f cdv A outer s H vs Q E hr z => ?_)
  · obtain ⟨t, rfl, _⟩ := z; rfl
  obtain ⟨t, rfl, ha, hz, q1, q2⟩ := z
  have nd := sc_pi.nd
  have hu65 : (A.deeper (envOfC "_law_place_in" (C8.fnScope t__law_place_in) s.heap.objs.size f cdv)).units + 65 < cLine := by have := hr.un; omega
  refine ⟨_, (pss_cons (ps_set (i := 1) nd rfl (.inl rfl) (pe_split (pv 0) pe_str))
    (pss_cons (ps_if (pt_cmpR op_ne (pe_callB (c_len K) (by rfl) B.len bt_len (pa_cons (pv 1) pa_nil)) pe_int (nomark _)) (pss_one (ps_ret pe_non)) pss_nil)
    (pss_cons (ps_set (i := 2) nd rfl (.inl rfl) (pe_tup (pa_cons (C8.pe_c cN hr (by decide) rfl (pa_cons (pe_ix (x_list K) (pv 1) pe_int (fun _ _ => rfl)) pa_nil)) (pa_cons (C8.pe_c cN hr (by decide) rfl (pa_cons (pe_ix (x_list K) (pv 1) pe_int (fun _ _ => rfl)) pa_nil)) pa_nil))))
    (pss_one (ps_ret (pe_ifExp (PW.pt (pw_or (pt_cmpR (op_inQ K) pe_non (pv 2) rfl) (pw_or1 (pt_cmpR op_lt (pe_callB (call_minT2 rfl hu65) (by rfl) B.min bt_min (pa_cons (pv 2) pa_nil)) pe_int (nomark _))))) pe_non (pv 2))))))), ?_⟩
  have sp : (Txt.split t (Str.ofString ".")).map tl = spl [46] 0 [] (tl t) := by
    have z := split_spl t (Str.ofString ".") (by rw [tl_dot]; simp) (kind_ok (by decide +kernel))
    rw [tl_dot] at z
    exact z
  have back := (spl_back (tl t) []).1
  rw [← sp, List.nil_append] at back
  have ofPl : ∀ i j : Nat, t = plS ((i : Int), (j : Int)) → Txt.split t (Str.ofString ".") = [numS i, numS j] := fun i j e => by
    have z := split_join (y := Str.ofString ".") (s := 46) (S := []) tl_dot (by decide +kernel) (parts := [numS i, numS j]) (by simp) (fun p hp => by
      rcases List.mem_cons.mp hp with rfl | hp
      · rw [tl_numS]; exact numL_free (by omega)
      · rw [List.mem_singleton.mp hp, tl_numS]; exact numL_free (by omega))
    rw [e]
    rw [show plS ((i : Int), (j : Int)) = Txt.join (Str.ofString ".") [numS i, numS j] from ext_tl (by
      rw [join_eq, tl_join]
      unfold plS
      rw [tl_append, tl_append, List.append_assoc]; rfl)]
    exact z
  have m30 : (10 : Nat) ^ 30 - 1 = 10 ^ 30 - 1 := rfl
  have lens : ∀ p ∈ Txt.split t (Str.ofString "."), (∀ c ∈ tl p, c ∈ tl t) := by
    have gen : ∀ (L : List (List Nat)) (p : List Nat), p ∈ L → ∀ c ∈ p, c ∈ joinL [46] L := by
      intro L
      induction L with
      | nil => intro p hp; cases hp
      | cons x xs ih =>
        intro p hp c hc
        cases xs with
        | nil => rw [List.mem_singleton.mp hp] at hc; exact hc
        | cons y ys =>
          show c ∈ x ++ ([46] ++ joinL [46] (y :: ys))
          rcases List.mem_cons.mp hp with rfl | hp
          · exact List.mem_append_left _ hc
          · exact List.mem_append_right _ (List.mem_append_right _ (ih p hp c hc))
    intro p hp c hc
    rw [← back]
    exact gen _ (tl p) (List.mem_map.mpr ⟨p, hp, rfl⟩) c hc
  refine ⟨_, rfl, ⟨_, rfl⟩, t, _, rfl, rfl, (by decide +kernel), hz, fun l hl => ?_⟩
  have s1 := same_new hl (.lst ((Txt.split t (Str.ofString ".")).map V.str))
  have g1 : upd H l (.lst ((Txt.split t (Str.ofString ".")).map V.str)) l = some (.lst ((Txt.split t (Str.ofString ".")).map V.str)) := upd_same
  generalize upd H l (.lst ((Txt.split t (Str.ofString ".")).map V.str)) = H1 at s1 g1
  have q2' : ∀ H', Same H H' → (∀ i j : Nat, t = plS ((i : Int), (j : Int)) → ¬ (i ≤ 10 ^ 30 - 1 ∧ j ≤ 10 ^ 30 - 1)) → Q .non H' := fun H' s h => q2 h H' s
  refine ⟨_, rfl, l, _, rfl, .inl (SqL.of g1), rfl, _, rfl, ite2 (fun c => ?_) (fun c => ?_)⟩
  · refine q2' _ s1 fun i j e _ => ?_
    rw [ofPl i j e] at c
    exact absurd c (by simp)
  have len2 : (Txt.split t (Str.ofString ".")).length = 2 := by
    cases z : decide (V.int (((Txt.split t (Str.ofString ".")).map V.str).length : Nat) = V.int 2) with
    | true =>
      have z := V.int.inj (of_decide_eq_true z)
      rw [List.length_map] at z
      omega
    | false => rw [z] at c; exact absurd rfl c
  obtain ⟨p1, p2, ep⟩ : ∃ p1 p2, Txt.split t (Str.ofString ".") = [p1, p2] := by
    match h : Txt.split t (Str.ofString "."), len2 with
    | [a, b], _ => exact ⟨a, b, rfl⟩
  rw [ep] at lens back g1 ofPl
  have et : tl t = tl p1 ++ ([46] ++ tl p2) := back.symm
  have lt : t.length = (tl p1).length + (1 + (tl p2).length) := by rw [len_tl, et, List.length_append, List.length_append]; rfl
  have a1 : Asc p1 := fun c hc => ha c (lens p1 List.mem_cons_self c hc)
  have a2 : Asc p2 := fun c hc => ha c (lens p2 (List.mem_cons_of_mem _ List.mem_cons_self) c hc)
  have isPl : ∀ i j : Nat, t = plS ((i : Int), (j : Int)) → p1 = numS i ∧ p2 = numS j := fun i j e => by
    have z := ofPl i j e
    exact ⟨(List.cons.inj z).1, (List.cons.inj (List.cons.inj z).2).1⟩
  have bad : (∀ i : Int, p1 = numS i → ¬ i.natAbs ≤ 10 ^ 30 - 1) ∨ (∀ i : Int, p2 = numS i → ¬ i.natAbs ≤ 10 ^ 30 - 1) → ∀ H', Same H H' → Q .non H' := fun h H' s => q2' H' s fun i j e b => by
    obtain ⟨z1, z2⟩ := isPl i j e
    rcases h with h | h
    · exact h i z1 (by rw [Int.natAbs_natCast]; exact b.1)
    · exact h j z2 (by rw [Int.natAbs_natCast]; exact b.2)
  refine ⟨_, rfl, l, _, 0, .str p1, rfl, rfl, SqL.of g1, atI_nat (j := 0) rfl, p1, rfl, a1, by rw [len_tl]; omega, fun H2 s2 => ⟨fun i1 e1 b1 => ?_, fun n1 => ?_⟩⟩
  · refine ⟨_, rfl, l, _, 1, .str p2, rfl, rfl, SqL.of (s2 _ _ g1), atI_nat (j := 1) rfl, p2, rfl, a2, by rw [len_tl]; omega, fun H3 s3 => ⟨fun i2 e2 b2 => ?_, fun n2 => ?_⟩⟩
    · refine ⟨(by show 2 ≤ sizeLine; decide), fun tp htp => ?_⟩
      have sT := s1.trans (s2.trans (s3.trans (same_new htp (.tup [.int i1, .int i2]))))
      have gt : upd H3 tp (.tup [.int i1, .int i2]) tp = some (.tup [.int i1, .int i2]) := upd_same
      generalize upd H3 tp (.tup [.int i1, .int i2]) = H4 at sT gt
      refine ⟨_, rfl, tp, [.int i1, .int i2], rfl, .inr (SqT.of gt), rfl, rfl, _, rfl, iteF ⟨_, rfl, tp, i1, i2, rfl, gt, _, _, rfl, rfl, _, rfl, ite2 (fun c => ?_) (fun c => ⟨_, rfl, ?_⟩)⟩⟩
      · have c := of_decide_eq_true c
        refine q2' _ sT fun i j e _ => ?_
        obtain ⟨z1, z2⟩ := isPl i j e
        have z1 := numS_inj (e1.symm.trans z1)
        have z2 := numS_inj (e2.symm.trans z2)
        omega
      · have c := of_decide_eq_false (Bool.not_eq_true _ ▸ c)
        obtain ⟨x1, rfl⟩ := Int.eq_ofNat_of_zero_le (show 0 ≤ i1 by omega)
        obtain ⟨x2, rfl⟩ := Int.eq_ofNat_of_zero_le (show 0 ≤ i2 by omega)
        refine q1 x1 x2 (ext_tl ?_) (by rw [Int.natAbs_natCast] at b1; exact b1) (by rw [Int.natAbs_natCast] at b2; exact b2) _ _ sT ⟨tp, rfl, gt⟩
        rw [et, e1, e2]
        unfold plS
        rw [tl_append, tl_append, List.append_assoc]; rfl
    · refine ⟨(by show 2 ≤ sizeLine; decide), fun tp htp => ?_⟩
      have sT := s1.trans (s2.trans (s3.trans (same_new htp (.tup [.int i1, .non]))))
      have gt : upd H3 tp (.tup [.int i1, .non]) tp = some (.tup [.int i1, .non]) := upd_same
      exact ⟨_, rfl, tp, _, rfl, .inr (SqT.of gt), rfl, rfl, _, rfl, iteT (iteT (bad (.inr n2) _ sT))⟩
  · refine ⟨_, rfl, l, _, 1, .str p2, rfl, rfl, SqL.of (s2 _ _ g1), atI_nat (j := 1) rfl, p2, rfl, a2, by rw [len_tl]; omega, fun H3 s3 => ⟨fun i2 e2 b2 => ?_, fun n2 => ?_⟩⟩
    · refine ⟨(by show 2 ≤ sizeLine; decide), fun tp htp => ?_⟩
      have sT := s1.trans (s2.trans (s3.trans (same_new htp (.tup [.non, .int i2]))))
      have gt : upd H3 tp (.tup [.non, .int i2]) tp = some (.tup [.non, .int i2]) := upd_same
      exact ⟨_, rfl, tp, _, rfl, .inr (SqT.of gt), rfl, rfl, _, rfl, iteT (iteT (bad (.inl n1) _ sT))⟩
    · refine ⟨(by show 2 ≤ sizeLine; decide), fun tp htp => ?_⟩
      have sT := s1.trans (s2.trans (s3.trans (same_new htp (.tup [.non, .non]))))
      have gt : upd H3 tp (.tup [.non, .non]) tp = some (.tup [.non, .non]) := upd_same
      exact ⟨_, rfl, tp, _, rfl, .inr (SqT.of gt), rfl, rfl, _, rfl, iteT (iteT (bad (.inl n1) _ sT))⟩
end
end L2.FK
/-! A text of one sign, so many times. -/
namespace L2
open PySem PySem.Spec PyProof.Rows TL
theorem rep_cps (c : Nat) : ∀ (n : Nat) (acc : Array Nat), ((List.replicate n (#[c] : Array Nat)).foldl (· ++ ·) acc).toList = acc.toList ++ List.replicate n c
  | 0, acc => by simp
  | n + 1, acc => by
    rw [List.replicate_succ, List.foldl_cons, rep_cps c n, List.replicate_succ]
    simp
theorem op_repS1 {X : Cx} : OpR X (binaryOp .Mult) (fun x y H Q => ∃ (z : Str) (c n : Nat), x = .str z ∧ tl z = [c] ∧ y = .int (n : Int) ∧ 2 ≤ n ∧ n ≤ 1000 ∧ ∀ z : Str, tl z = List.replicate n c → Q (.str z) H) := by
  intro pins s σ H x y u v Q I rx ry h
  obtain ⟨z, c, n, rfl, hz, rfl, h2, h1000, q⟩ := h
  obtain ⟨t, rfl⟩ := rx
  obtain ⟨t', rfl⟩ := ry
  have ez : z = ⟨#[c]⟩ := ext_tl hz
  subst ez
  have l1 : (⟨#[c]⟩ : Str).length = 1 := rfl
  have e : tl (⟨(List.replicate ((n : Int).toNat) (#[c] : Array Nat)).foldl (· ++ ·) #[]⟩ : Str) = List.replicate n c := by
    show ((List.replicate ((n : Int).toNat) (#[c] : Array Nat)).foldl (· ++ ·) #[]).toList = _
    rw [rep_cps, Int.toNat_natCast]; rfl
  have hne : ((n : Int) == 1 || (⟨#[c]⟩ : Str).length == 0) = false := by
    rw [l1]
    have : ((n : Int) == 1) = false := by rw [beq_eq_false_iff_ne]; omega
    rw [this]; rfl
  refine PySem.P.mul_str ?_ (fun _ _ => ?_) (fun _ _ => ?_) ?_
  · rw [decide_eq_false (by omega), decide_eq_false (by omega)]; rfl
  · rw [l1]
    have hd : (1 : Int) ≤ (2 ^ 63 - 1) / (n : Int) := (Int.le_ediv_iff_mul_le (by omega)).mpr (by omega)
    show ¬ ((1 : Nat) : Int) > _
    omega
  · rw [l1]
    show decide (1 * (n : Int).toNat > sizeLine) = false
    refine decide_eq_false ?_
    have : 1000 ≤ sizeLine := by decide
    rw [Int.toNat_natCast]
    omega
  · rw [if_neg (by omega), if_neg (by rw [hne]; exact Bool.false_ne_true)]
    refine ⟨?_, .str _, H, I.tok _, ⟨_, rfl⟩, q _ e⟩
    rw [len_tl, e, List.length_replicate]
    exact Nat.le_trans h1000 (by decide)
end L2
/-! _law_bent on texts. -/
namespace L2.FK
open PySem PySem.Spec PyProof.Rows L2.FL FlT LamX TL
theorem joinL_mem {S : List Nat} : ∀ {L : List (List Nat)} {c : Nat}, c ∈ joinL S L → c ∈ S ∨ ∃ p ∈ L, c ∈ p
  | [], c, h => by cases h
  | [p], c, h => .inr ⟨p, List.mem_cons_self, h⟩
  | p :: q :: r, c, h => by
    have h : c ∈ p ++ (S ++ joinL S (q :: r)) := h
    rcases List.mem_append.mp h with h | h
    · exact .inr ⟨p, List.mem_cons_self, h⟩
    · rcases List.mem_append.mp h with h | h
      · exact .inl h
      · rcases joinL_mem h with h | ⟨p', hp, h⟩
        · exact .inl h
        · exact .inr ⟨p', List.mem_cons_of_mem _ hp, h⟩
/-- lengths and one more each -/
def wsum (L : List (List Nat)) : Nat := (L.map fun p => p.length + 1).sum
theorem joinL_len {s : Nat} : ∀ {L : List (List Nat)}, L ≠ [] → (joinL [s] L).length + 1 = wsum L
  | [], h => absurd rfl h
  | [p], _ => by simp [wsum, joinL]
  | p :: q :: r, _ => by
    have ih := joinL_len (s := s) (L := q :: r) (by simp)
    show (p ++ ([s] ++ joinL [s] (q :: r))).length + 1 = (p.length + 1) + wsum (q :: r)
    rw [List.length_append, List.length_append, ← ih]
    simp only [List.length_cons, List.length_nil]
    omega
theorem wsum_app (L M : List (List Nat)) : wsum (L ++ M) = wsum L + wsum M := by unfold wsum; rw [List.map_append, List.sum_append]
theorem spl_backS (s : Nat) : ∀ (l acc : List Nat), joinL [s] (spl [s] 0 acc l) = acc ++ l ∧ spl [s] 0 acc l ≠ []
  | [], acc => by rw [spl_nil]; exact ⟨by simp [joinL], by simp⟩
  | c :: r, acc => by
    by_cases h : pre [s] (c :: r) = true
    · rw [spl_hit h]
      show joinL [s] (acc :: spl [s] 0 [] r) = acc ++ c :: r ∧ (acc :: spl [s] 0 [] r) ≠ []
      obtain ⟨z1, z2⟩ := spl_backS s r []
      have hc : c = s := by simp [pre] at h; exact h
      refine ⟨?_, by simp⟩
      cases e : spl [s] 0 [] r with
      | nil => exact absurd e z2
      | cons x xs =>
        rw [e] at z1
        show acc ++ ([s] ++ joinL [s] (x :: xs)) = _
        rw [z1, hc]; simp
    · have h : pre [s] (c :: r) = false := by cases z : pre [s] (c :: r) <;> simp [z] at h ⊢
      rw [spl_miss h]
      obtain ⟨z1, z2⟩ := spl_backS s r (acc ++ [c])
      exact ⟨by rw [z1, List.append_assoc]; rfl, z2⟩
theorem cutV_take (xs : List V) (k : Nat) : cutV xs none (some (k : Int)) = xs.take k := by
  have h0 : HT.sIx xs.length 0 none = 0 := by simp [HT.sIx]
  show (xs.drop _).take _ = _
  rw [h0, List.drop_zero, Nat.sub_zero]
  have : HT.sIx xs.length xs.length (some (k : Int)) = min k xs.length := by simp [HT.sIx]; omega
  rw [this, Nat.min_comm, ← List.take_take]
  exact List.take_of_length_le (by rw [List.length_take]; omega)
theorem cutV_drop (xs : List V) (k : Nat) : cutV xs (some (k : Int)) none = xs.drop k := by
  have h0 : HT.sIx xs.length xs.length none = xs.length := by simp [HT.sIx]
  show (xs.drop _).take _ = _
  rw [h0]
  have : HT.sIx xs.length 0 (some (k : Int)) = min k xs.length := by simp [HT.sIx]; omega
  rw [this]
  by_cases c : k ≤ xs.length
  · rw [Nat.min_eq_left c, ← List.length_drop, List.take_length]
  · rw [Nat.min_eq_right (by omega), List.drop_length, List.drop_eq_nil_of_le (by omega), List.take_nil]
theorem tl_take (z : Str) (k : Nat) : tl (cutS z none (some (k : Int))) = (tl z).take k := by
  have h0 : HT.sIx z.length 0 none = 0 := by simp [HT.sIx]
  show ((tl z).drop _).take _ = _
  rw [h0, List.drop_zero, Nat.sub_zero]
  have : HT.sIx z.length z.length (some (k : Int)) = min k z.length := by simp [HT.sIx]; omega
  rw [this, len_tl, Nat.min_comm, ← List.take_take]
  exact List.take_of_length_le (by rw [List.length_take]; omega)
theorem tl_drop (z : Str) (k : Nat) : tl (cutS z (some (k : Int)) none) = (tl z).drop k := by
  have h0 : HT.sIx z.length z.length none = z.length := by simp [HT.sIx]
  show ((tl z).drop _).take _ = _
  rw [h0]
  have : HT.sIx z.length 0 (some (k : Int)) = min k z.length := by simp [HT.sIx]; omega
  rw [this, len_tl]
  by_cases c : k ≤ (tl z).length
  · rw [Nat.min_eq_left c, ← List.length_drop, List.take_length]
  · rw [Nat.min_eq_right (by omega), List.drop_length, List.drop_eq_nil_of_le (by omega), List.take_nil]
section
variable {P : Program} {w : World} {K : PySem.W.Frag} {mg : Str → Option Value} {base : Heap} {TT : List (Addr × Str)}
abbrev nBx : List Str := ["_law_bag_here", "_law_text", "_law_at", "_law_way", "_law_signs", "_law_words", "_law_k", "_law_more"]
def gBx (TT : List (Addr × Str)) : Sp := fun vs H Q _ => ∃ (b sa : Addr) (t : Str) (F : Nat), vs = [.ref b, .str t] ∧ Lv b sa TT H ∧ Asc t ∧ t.length ≤ F ∧ F ≤ 100000 ∧ ∀ u H', Up b sa TT H H' → Asc u → u.length ≤ 2 * F + 40 → Q (.str u) H'
theorem sc_bx : FnScope nBx ["_law_bag_here", "_law_text"] (C8.fnScope t__law_bent) := C8.fnScope_by (by decide +kernel)
theorem ok_bentx (h : Has K mg "_law_bent" t__law_bent ["_law_bag_here", "_law_text"]) (B : Bl mg) (cP : C8.Cal P w K mg base 1 "_law_pull" (gPull TT) []) (cO : C8.Cal P w K mg base 2 "_law_of" (gOf TT) []) : C8.Cal P w K mg base 3 "_law_bent" (gBx TT) [] := by
  refine cal_of h sc_bx (fun vs H Q E z => ?_) (fun f cdv A outer s H vs Q E hr z => ?_)
  · obtain ⟨b, sa, t, F, rfl, _⟩ := z; rfl
  obtain ⟨b, sa, t, F, rfl, L, ha, hF, F1, q⟩ := z
  have nd := sc_bx.nd
  refine ⟨_, (pss_cons (ps_par (i := 2) (j := 3) (by rfl) nd rfl rfl (by decide) rfl rfl (pa_cons (C8.pe_c cP hr (by decide) rfl (pa_cons (pv 0) (pa_cons (pe_op op_add (pe_callB call_len_str (by rfl) B.len bt_len (pa_cons (pv 1) pa_nil)) pe_int) pa_nil))) (pa_cons (C8.pe_c cP hr (by decide) rfl (pa_cons (pv 0) (pa_cons pe_int pa_nil))) pa_nil)) rfl)
    (C8.pss_cut (ps_set (i := 4) nd rfl (.inl rfl) (pe_lst (pa_cons pe_str (pa_cons pe_str (pa_cons pe_str (pa_cons pe_str (pa_cons pe_str (pa_cons pe_str (pa_cons pe_str (pa_cons pe_str (pa_cons pe_str (pa_cons pe_str (pa_cons pe_str (pa_cons (pe_op op_repS1 pe_str pe_int) (pa_cons (pe_op op_repS1 pe_str pe_int) (pa_cons pe_str (pa_cons pe_str pa_nil)))))))))))))))))
    (C8.pss_cut (ps_if (pt_cmpR op_eq (pv 3) pe_int (nomark _)) (pss_one (ps_ret (pe_op op_add_str (pe_op op_add_str (pe_slice sl_str (pv 1) po_none (po_some (pv 2))) (C8.pe_c cO hr (by decide) rfl (pa_cons (pv 0) (pa_cons (pv 4) pa_nil)))) (pe_slice sl_str (pv 1) (po_some (pv 2)) po_none)))) pss_nil)
    (C8.pss_cut (ps_if (pt_cmpR op_eq (pv 3) pe_int (nomark _)) (pss_one (ps_ret (pe_op op_add_str (pe_slice sl_str (pv 1) po_none (po_some (pv 2))) (pe_slice sl_str (pv 1) (po_some (pe_op op_add (pv 2) pe_int)) po_none)))) pss_nil)
    (C8.pss_cut (ps_if (pt_cmpR op_eq (pv 3) pe_int (nomark _)) (pss_one (ps_ret (pe_op op_add_str (pe_op op_add_str (pe_slice sl_str (pv 1) po_none (po_some (pv 2))) (C8.pe_c cO hr (by decide) rfl (pa_cons (pv 0) (pa_cons (pv 4) pa_nil)))) (pe_slice sl_str (pv 1) (po_some (pe_op op_add (pv 2) pe_int)) po_none)))) pss_nil)
    (pss_cons (ps_set (i := 5) nd rfl (.inl rfl) (pe_split (pv 1) pe_str))
    (pss_cons (ps_set (i := 6) nd rfl (.inl rfl) (C8.pe_c cP hr (by decide) rfl (pa_cons (pv 0) (pa_cons (pe_callB (c_len K) (by rfl) B.len bt_len (pa_cons (pv 5) pa_nil)) pa_nil))))
    (pss_cons (ps_set (i := 7) nd rfl (.inl rfl) (pe_op op_rep (pe_lst (pa_cons (pe_ix (x_list K) (pv 5) (pv 6) (fun _ _ => rfl)) pa_nil)) (C8.pe_c cP hr (by decide) rfl (pa_cons (pv 0) (pa_cons pe_int pa_nil)))))
    (pss_one (ps_ret (pe_join pe_str (pe_op op_cat (pe_op op_cat (pe_slice sl_list (pv 5) po_none (po_some (pv 6))) (pe_slice sl_list (pv 5) (po_some (pe_op op_add (pv 6) pe_int)) po_none)) (pv 7))))))))))))), ?_⟩
  have fz : ∀ x : Nat, x ≤ 300000 → x ≤ sizeLine := fun x h => Nat.le_trans h (by decide)
  refine ⟨_, rfl, _, rfl, t, rfl, fz _ (by omega), _, _, rfl, rfl, b, sa, _, rfl, L, by omega, by omega, fun at' H1 _ u1 => ?_⟩
  refine ⟨_, rfl, b, sa, _, rfl, u1.lv, by decide, by decide, fun way H2 w4 u2 => ⟨_, _, rfl, ?_⟩⟩
  have u02 := u1.trans u2
  clear u1 u2
  -- the signs
  refine ⟨fun σ H' => Up b sa TT H H' ∧ ∃ (l : Addr) (zs : List Str), l ≠ b ∧ H' l = some (.lst (zs.map V.str)) ∧ zs.length = 15 ∧ (∀ z ∈ zs, Asc z ∧ z.length ≤ 31) ∧ ∃ x5 x6 x7, σ = [some (.ref b), some (.str t), some (.int (at' : Int)), some (.int (way : Int)), some (.ref l), x5, x6, x7], ?_, ?_⟩
  · refine ⟨_, 48, 31, rfl, (by decide +kernel), rfl, by decide, by decide, fun z1 hz1 => ⟨_, 49, 31, rfl, (by decide +kernel), rfl, by decide, by decide, fun z2 hz2 => ⟨(by show 15 ≤ sizeLine; decide), fun l hl => ?_⟩⟩⟩
    have sl := same_new hl (.lst ([Str.ofString "", Str.ofString " ", Str.ofString "0", Str.ofString "-", Str.ofString ".", Str.ofString "|", Str.ofString " | ", Str.ofString "1", Str.ofString "9", Str.ofString "a", Str.ofString " 0.0", z1, z2, Str.ofString " | 0", Str.ofString "  "].map V.str))
    refine ⟨u02.trans (u02.lv.same sl), l, [Str.ofString "", Str.ofString " ", Str.ofString "0", Str.ofString "-", Str.ofString ".", Str.ofString "|", Str.ofString " | ", Str.ofString "1", Str.ofString "9", Str.ofString "a", Str.ofString " 0.0", z1, z2, Str.ofString " | 0", Str.ofString "  "], u02.lv.old hl, upd_same, rfl, fun z hz => ?_, _, _, _, rfl⟩
    have cl : ∀ z : Str, (∀ c ∈ tl z, c < 128) ∧ (tl z).length ≤ 31 → Asc z ∧ z.length ≤ 31 := fun z h => ⟨h.1, by rw [len_tl]; exact h.2⟩
    have r1 : ∀ {z : Str} {c : Nat}, c < 128 → tl z = List.replicate 31 c → Asc z ∧ z.length ≤ 31 := fun hc e => cl _ (by rw [e]; exact ⟨fun x hx => by rw [(List.mem_replicate.mp hx).2]; exact hc, by rw [List.length_replicate]; exact Nat.le_refl _⟩)
    simp only [List.mem_cons, List.not_mem_nil, or_false] at hz
    rcases hz with rfl | rfl | rfl | rfl | rfl | rfl | rfl | rfl | rfl | rfl | rfl | rfl | rfl | rfl | rfl
    all_goals first
      | exact cl _ (by decide +kernel)
      | exact r1 (by decide) hz1
      | exact r1 (by decide) hz2
  rintro σ H3 ⟨u3, l, zs, nlb, gl, zl, zok, x5, x6, x7, rfl⟩
  have at1 : Asc (cutS t none (some (at' : Int))) := fun c hc => ha c (by rw [tl_take] at hc; exact List.mem_of_mem_take hc)
  have ad1 : ∀ k : Nat, Asc (cutS t (some (k : Int)) none) := fun k c hc => ha c (by rw [tl_drop] at hc; exact List.mem_of_mem_drop hc)
  have l1 : (cutS t none (some (at' : Int))).length ≤ F := Nat.le_trans (cutS_length ..) hF
  have l2 : ∀ k : Nat, (cutS t (some (k : Int)) none).length ≤ F := fun k => Nat.le_trans (cutS_length ..) hF
  have cat : ∀ x y : Str, Asc x → Asc y → Asc (x ++ y) := fun x y hx hy c hc => by
    rw [tl_append] at hc
    rcases List.mem_append.mp hc with hc | hc
    · exact hx c hc
    · exact hy c hc
  have sgn : ∀ (i : Nat) (x : V), (zs.map V.str)[i]? = some x → ∃ z, x = .str z ∧ Asc z ∧ z.length ≤ 31 := fun i x hx => by
    rw [List.getElem?_map] at hx
    obtain ⟨z, hz, rfl⟩ := Option.map_eq_some_iff.mp hx
    exact ⟨z, rfl, zok z (List.mem_of_getElem? hz)⟩
  -- 0
  refine ⟨fun σ H' => H' = H3 ∧ σ = [some (.ref b), some (.str t), some (.int (at' : Int)), some (.int (way : Int)), some (.ref l), x5, x6, x7], ⟨_, rfl, rfl, _, rfl, ite2 (fun c => ?_) (fun c => ⟨rfl, rfl⟩)⟩, ?_⟩
  · refine ⟨_, rfl, _, rfl, _, rfl, t, rfl, fz _ (by omega), _, rfl, _, rfl, b, sa, l, _, rfl, u3.lv, nlb, gl, by rw [List.length_map]; omega, by rw [List.length_map]; omega, fun i x H4 hx u4 => ?_⟩
    obtain ⟨z, rfl, za, zz⟩ := sgn i x hx
    refine ⟨_, _, rfl, rfl, fz _ (by omega), _, rfl, _, rfl, _, rfl, t, rfl, fz _ (by omega), _, _, rfl, rfl, fz _ (by rw [len_app]; have := l2 at'; omega), q _ _ (u3.trans u4) (cat _ _ (cat _ _ at1 za) (ad1 _)) (by rw [len_app, len_app]; have := l2 at'; omega)⟩
  rintro σ H' ⟨eH, rfl⟩
  rw [eH]
  clear eH H'
  -- 1
  refine ⟨fun σ H' => H' = H3 ∧ σ = [some (.ref b), some (.str t), some (.int (at' : Int)), some (.int (way : Int)), some (.ref l), x5, x6, x7], ⟨_, rfl, rfl, _, rfl, ite2 (fun c => ?_) (fun c => ⟨rfl, rfl⟩)⟩, ?_⟩
  · exact ⟨_, rfl, _, rfl, _, rfl, t, rfl, fz _ (by omega), _, rfl, _, rfl, _, _, rfl, rfl, _, rfl, t, rfl, fz _ (by omega), _, _, rfl, rfl, fz _ (by have := l2 (at' + 1); show (cutS t none (some (at' : Int))).length + (cutS t (some ((at' + 1 : Nat) : Int)) none).length ≤ 300000; omega), q _ _ u3 (cat _ _ at1 (ad1 (at' + 1))) (by have := l2 (at' + 1); show ((cutS t none (some (at' : Int))) ++ (cutS t (some ((at' + 1 : Nat) : Int)) none)).length ≤ _; rw [len_app]; omega)⟩
  rintro σ H' ⟨eH, rfl⟩
  rw [eH]
  clear eH H'
  -- 2
  refine ⟨fun σ H' => H' = H3 ∧ σ = [some (.ref b), some (.str t), some (.int (at' : Int)), some (.int (way : Int)), some (.ref l), x5, x6, x7], ⟨_, rfl, rfl, _, rfl, ite2 (fun c => ?_) (fun c => ⟨rfl, rfl⟩)⟩, ?_⟩
  · refine ⟨_, rfl, _, rfl, _, rfl, t, rfl, fz _ (by omega), _, rfl, _, rfl, b, sa, l, _, rfl, u3.lv, nlb, gl, by rw [List.length_map]; omega, by rw [List.length_map]; omega, fun i x H4 hx u4 => ?_⟩
    obtain ⟨z, rfl, za, zz⟩ := sgn i x hx
    exact ⟨_, _, rfl, rfl, fz _ (by omega), _, rfl, _, rfl, _, _, rfl, rfl, _, rfl, t, rfl, fz _ (by omega), _, _, rfl, rfl, fz _ (by have := l2 (at' + 1); show (cutS t none (some (at' : Int)) ++ z).length + (cutS t (some ((at' + 1 : Nat) : Int)) none).length ≤ 300000; rw [len_app]; omega), q _ _ (u3.trans u4) (cat _ _ (cat _ _ at1 za) (ad1 (at' + 1))) (by have := l2 (at' + 1); show ((cutS t none (some (at' : Int)) ++ z) ++ (cutS t (some ((at' + 1 : Nat) : Int)) none)).length ≤ _; rw [len_app, len_app]; omega)⟩
  rintro σ H' ⟨eH, rfl⟩
  rw [eH]
  clear eH H' cat sgn at1 ad1 l1 l2 gl zok
  obtain ⟨ws, ews⟩ : ∃ ws, Txt.split t (Str.ofString " ") = ws := ⟨_, rfl⟩
  have sp : ws.map tl = spl [32] 0 [] (tl t) := by
    have z := split_spl t (Str.ofString " ") (by rw [tl_sp]; simp) (kind_ok (by decide +kernel))
    rw [tl_sp, ews] at z
    exact z
  obtain ⟨back, nb⟩ := spl_backS 32 (tl t) []
  rw [← sp, List.nil_append] at back
  rw [← sp] at nb
  have wne : 0 < ws.length := by cases ws with | nil => exact absurd rfl nb | cons _ _ => simp
  have wl := joinL_len (s := 32) nb
  rw [back, ← len_tl] at wl
  have wcount : ws.length ≤ t.length + 1 := by
    have : ∀ L : List (List Nat), L.length ≤ wsum L := fun L => by
      unfold wsum
      induction L with
      | nil => exact Nat.le_refl _
      | cons x xs ih => rw [List.map_cons, List.sum_cons, List.length_cons]; omega
    have z := this (ws.map tl)
    rw [List.length_map] at z
    omega
  refine ⟨_, rfl, ⟨_, rfl⟩, t, _, rfl, rfl, (by decide +kernel), fz _ (by omega), fun lw hlw => ?_⟩
  rw [ews]
  have u4 := u3.trans (u3.lv.same (same_new hlw (.lst (ws.map V.str))))
  have g4 : LstAt b (upd H3 lw (.lst (ws.map V.str))) lw (ws.map V.str) := LstAt.of u4.lv (u3.lv.old hlw) upd_same
  generalize upd H3 lw (.lst (ws.map V.str)) = H4 at u4 g4
  refine ⟨_, rfl, _, rfl, lw, _, rfl, .inl (SqL.of g4.get), b, sa, _, rfl, u4.lv, by rw [List.length_map]; omega, by rw [List.length_map]; omega, fun kk H5 k5 u5 => ?_⟩
  rw [List.length_map] at k5
  have g5 := g4.up u4.lv u5
  have hk : (ws.map V.str)[kk]? = some (.str (ws[kk]'(by omega))) := by rw [List.getElem?_map, List.getElem?_eq_getElem (by omega)]; rfl
  have wm : ws[kk]'(by omega) ∈ ws := List.getElem_mem _
  generalize ws[kk]'(by omega) = wk at hk wm
  refine ⟨_, rfl, _, rfl, lw, _, _, _, rfl, rfl, SqL.of g5.get, atI_nat hk, (by show 1 ≤ sizeLine; decide), fun lm hlm => ?_⟩
  have u6 := u4.trans (u5.trans (u5.lv.same (same_new hlm (.lst [.str wk]))))
  have u56 := u5.trans (u5.lv.same (same_new hlm (.lst [.str wk])))
  have gm : LstAt b (upd H5 lm (.lst [.str wk])) lm [.str wk] := LstAt.of u6.lv (u5.lv.old hlm) upd_same
  have g6 := g4.up u4.lv u56
  generalize upd H5 lm (.lst [.str wk]) = H6 at u6 u56 gm g6
  refine ⟨_, rfl, b, sa, _, rfl, u6.lv, by decide, by decide, fun r H7 r2 u7 => ⟨lm, r, _, rfl, rfl, (gm.up u6.lv u7).get, by omega, by omega, fz _ (by rw [Int.toNat_natCast]; simp only [List.length_cons, List.length_nil]; omega), fun lr hlr => ?_⟩⟩
  have g7 := g6.up u6.lv u7
  have u07 := u6.trans u7
  have em : (List.replicate ((r : Int).toNat) [V.str wk]).flatten = (List.replicate r wk).map V.str := by
    rw [Int.toNat_natCast]
    clear u7 g7 u07 hlr r2
    induction r with
    | zero => rfl
    | succ r ih => rw [List.replicate_succ, List.replicate_succ, List.flatten_cons, ih]; rfl
  rw [em]
  have s8 := same_new hlr (.lst ((List.replicate r wk).map V.str))
  have gr8 : upd H7 lr (.lst ((List.replicate r wk).map V.str)) lr = some (.lst ((List.replicate r wk).map V.str)) := upd_same
  have g8 := s8 _ _ g7.get
  generalize upd H7 lr (.lst ((List.replicate r wk).map V.str)) = H8 at s8 gr8 g8
  have e1 : cutV (ws.map V.str) none (some (kk : Int)) = (ws.take kk).map V.str := by rw [cutV_take, List.map_take]
  have e2 : cutV (ws.map V.str) (some ((kk + 1 : Nat) : Int)) none = (ws.drop (kk + 1)).map V.str := by rw [cutV_drop, List.map_drop]
  refine ⟨⟨_, rfl⟩, _, rfl, _, rfl, _, rfl, lw, _, rfl, SqL.of g8, fun p1 hp1 => ?_⟩
  rw [e1]
  have s9 := same_new hp1 (.lst ((ws.take kk).map V.str))
  have gp1 : upd H8 p1 (.lst ((ws.take kk).map V.str)) p1 = some (.lst ((ws.take kk).map V.str)) := upd_same
  generalize upd H8 p1 (.lst ((ws.take kk).map V.str)) = H9 at s9 gp1
  refine ⟨_, rfl, _, rfl, _, _, rfl, rfl, ((kk + 1 : Nat) : Int), rfl, lw, _, rfl, SqL.of (s9 _ _ g8), fun p2 hp2 => ?_⟩
  rw [e2]
  have sA := same_new hp2 (.lst ((ws.drop (kk + 1)).map V.str))
  have gp2 : upd H9 p2 (.lst ((ws.drop (kk + 1)).map V.str)) p2 = some (.lst ((ws.drop (kk + 1)).map V.str)) := upd_same
  generalize upd H9 p2 (.lst ((ws.drop (kk + 1)).map V.str)) = HA at sA gp2
  refine ⟨p1, p2, _, _, rfl, rfl, sA _ _ gp1, gp2, fz _ (by rw [List.length_map, List.length_map, List.length_take, List.length_drop]; omega), fun p3 hp3 => ?_⟩
  have sB := same_new hp3 (.lst ((ws.take kk).map V.str ++ (ws.drop (kk + 1)).map V.str))
  have gp3 : upd HA p3 (.lst ((ws.take kk).map V.str ++ (ws.drop (kk + 1)).map V.str)) p3 = some (.lst ((ws.take kk).map V.str ++ (ws.drop (kk + 1)).map V.str)) := upd_same
  generalize upd HA p3 (.lst ((ws.take kk).map V.str ++ (ws.drop (kk + 1)).map V.str)) = HB at sB gp3
  refine ⟨_, rfl, p3, lr, _, _, rfl, rfl, gp3, sB _ _ (sA _ _ (s9 _ _ gr8)), fz _ (by rw [List.length_append, List.length_map, List.length_map, List.length_map, List.length_take, List.length_drop, List.length_replicate]; omega), fun p4 hp4 => ?_⟩
  have eL : (ws.take kk).map V.str ++ (ws.drop (kk + 1)).map V.str ++ (List.replicate r wk).map V.str = (ws.take kk ++ ws.drop (kk + 1) ++ List.replicate r wk).map V.str := by rw [List.map_append, List.map_append]
  rw [eL]
  have sC := same_new hp4 (.lst ((ws.take kk ++ ws.drop (kk + 1) ++ List.replicate r wk).map V.str))
  have gp4 : upd HB p4 (.lst ((ws.take kk ++ ws.drop (kk + 1) ++ List.replicate r wk).map V.str)) p4 = some (.lst ((ws.take kk ++ ws.drop (kk + 1) ++ List.replicate r wk).map V.str)) := upd_same
  have s8C := s8.trans (s9.trans (sA.trans (sB.trans sC)))
  generalize upd HB p4 (.lst ((ws.take kk ++ ws.drop (kk + 1) ++ List.replicate r wk).map V.str)) = HC at s8C gp4
  -- its length
  have inw : ∀ z ∈ ws.take kk ++ ws.drop (kk + 1) ++ List.replicate r wk, z ∈ ws := fun z hz => by
    rcases List.mem_append.mp hz with hz | hz
    · rcases List.mem_append.mp hz with hz | hz
      · exact List.mem_of_mem_take hz
      · exact List.mem_of_mem_drop hz
    · rw [(List.mem_replicate.mp hz).2]; exact wm
  have w1 : wsum (ws.map tl) = wsum ((ws.take kk).map tl) + wsum ((ws.drop kk).map tl) := by rw [← wsum_app, ← List.map_append, List.take_append_drop]
  have w2 : wsum ((ws.drop (kk + 1)).map tl) ≤ wsum ((ws.drop kk).map tl) := by
    rw [← List.drop_drop]
    cases ws.drop kk with
    | nil => exact Nat.le_refl _
    | cons x xs => show wsum (xs.map tl) ≤ wsum (tl x :: xs.map tl); unfold wsum; rw [List.map_cons, List.sum_cons]; omega
  have wx : ∀ (L : List Str) (x : Str), x ∈ L → (tl x).length + 1 ≤ wsum (L.map tl) := fun L x hx => by
    induction L with
    | nil => cases hx
    | cons y ys ih =>
      show _ ≤ wsum (tl y :: ys.map tl)
      have e : wsum (tl y :: ys.map tl) = ((tl y).length + 1) + wsum (ys.map tl) := by unfold wsum; rw [List.map_cons, List.sum_cons]
      rw [e]
      rcases List.mem_cons.mp hx with rfl | hx
      · omega
      · have := ih hx; omega
  have w3 : wsum ((List.replicate r wk).map tl) ≤ wsum (ws.map tl) := by
    have : r = 0 ∨ r = 1 := by omega
    rcases this with rfl | rfl
    · exact Nat.zero_le _
    · have e : wsum ((List.replicate 1 wk).map tl) = (tl wk).length + 1 := by simp [wsum]
      rw [e]; exact wx ws wk wm
  have wtot : wsum ((ws.take kk ++ ws.drop (kk + 1) ++ List.replicate r wk).map tl) ≤ 2 * (t.length + 1) := by
    rw [List.map_append, List.map_append, wsum_app, wsum_app]
    omega
  have sumL : ∀ L : List Str, (L.map fun x => x.length).sum + L.length = wsum (L.map tl) := fun L => by
    induction L with
    | nil => rfl
    | cons x xs ih =>
      have e : wsum ((x :: xs).map tl) = ((tl x).length + 1) + wsum (xs.map tl) := by unfold wsum; rw [List.map_cons, List.map_cons, List.sum_cons]
      rw [e, ← ih, List.map_cons, List.sum_cons, List.length_cons, len_tl]
      omega
  have sl := sumL (ws.take kk ++ ws.drop (kk + 1) ++ List.replicate r wk)
  refine ⟨_, _, _, rfl, rfl, .inl (SqL.of gp4), ?_, q _ _ (u07.trans (u07.lv.same s8C)) (fun c hc => ?_) ?_⟩
  · have e1 : (Str.ofString " ").length = 1 := by decide +kernel
    rw [e1, Nat.mul_one, sl]
    omega
  · rw [join_eq, tl_join, tl_sp] at hc
    rcases joinL_mem hc with hc | ⟨p, hp, hc⟩
    · rw [List.mem_singleton.mp hc]; decide
    · obtain ⟨z, hz, rfl⟩ := List.mem_map.mp hp
      have z1 := inw z hz
      have gen : ∀ (L : List (List Nat)) (p : List Nat), p ∈ L → ∀ c ∈ p, c ∈ joinL [32] L := by
        intro L
        induction L with
        | nil => intro p hp; cases hp
        | cons x xs ih =>
          intro p hp c hc
          cases xs with
          | nil => rw [List.mem_singleton.mp hp] at hc; exact hc
          | cons y ys =>
            show c ∈ x ++ ([32] ++ joinL [32] (y :: ys))
            rcases List.mem_cons.mp hp with rfl | hp
            · exact List.mem_append_left _ hc
            · exact List.mem_append_right _ (List.mem_append_right _ (ih p hp c hc))
      exact ha c (by rw [← back]; exact gen _ _ (List.mem_map.mpr ⟨z, z1, rfl⟩) c hc)
  · rw [len_tl, join_eq, tl_join, tl_sp]
    by_cases en : (ws.take kk ++ ws.drop (kk + 1) ++ List.replicate r wk).map tl = []
    · rw [en]; exact Nat.zero_le _
    · have z := joinL_len (s := 32) en
      omega
end
end L2.FK
/-! _law_parts_in. -/
namespace L2.FK
open PySem PySem.Spec PyProof.Rows L2.FL FlT LamX TL
/-- a part reads as this drift and these goals -/
def RdP (p : Str) (d : Int) (row : List Pl) : Prop := p = partS d row ∧ d.natAbs ≤ 10 ^ 30 - 1 ∧ ∀ x ∈ row, ∃ i j : Nat, x = ((i : Int), (j : Int)) ∧ i ≤ 10 ^ 30 - 1 ∧ j ≤ 10 ^ 30 - 1
/-- the words of a part -/
theorem words_back (p : Str) : Txt.split p (Str.ofString " ") ≠ [] ∧ p = Str.join (Str.ofString " ") (Txt.split p (Str.ofString " ")) := by
  have z := split_spl p (Str.ofString " ") (by rw [tl_sp]; simp) (kind_ok (by decide +kernel))
  rw [tl_sp] at z
  obtain ⟨b, n⟩ := spl_backS 32 (tl p) []
  rw [← z, List.nil_append] at b
  rw [← z] at n
  exact ⟨fun e => n (by rw [e]; rfl), ext_tl (by rw [tl_join, tl_sp]; exact b.symm)⟩
theorem words_asc {p : Str} (h : Asc p) : ∀ z ∈ Txt.split p (Str.ofString " "), Asc z ∧ z.length ≤ p.length := by
  intro z hz
  have gen : ∀ (L : List (List Nat)) (q : List Nat), q ∈ L → (∀ c ∈ q, c ∈ joinL [32] L) ∧ q.length ≤ (joinL [32] L).length := by
    intro L
    induction L with
    | nil => intro q hq; cases hq
    | cons x xs ih =>
      intro q hq
      cases xs with
      | nil => rw [List.mem_singleton.mp hq]; exact ⟨fun c h => h, Nat.le_refl _⟩
      | cons y ys =>
        have e : joinL [32] (x :: y :: ys) = x ++ ([32] ++ joinL [32] (y :: ys)) := rfl
        rw [e, List.length_append, List.length_append]
        rcases List.mem_cons.mp hq with rfl | hq
        · exact ⟨fun c h => List.mem_append_left _ h, by omega⟩
        · obtain ⟨z1, z2⟩ := ih q hq
          exact ⟨fun c h => List.mem_append_right _ (List.mem_append_right _ (z1 c h)), by omega⟩
  obtain ⟨g1, g2⟩ := gen ((Txt.split p (Str.ofString " ")).map tl) (tl z) (List.mem_map.mpr ⟨z, hz, rfl⟩)
  have e : joinL [32] ((Txt.split p (Str.ofString " ")).map tl) = tl p := by
    have b := congrArg tl (words_back p).2
    rw [tl_join, tl_sp] at b
    exact b.symm
  rw [e] at g1 g2
  exact ⟨fun c hc => h c (g1 c hc), by rw [len_tl, len_tl]; exact g2⟩
/-- read by the words -/
theorem rdp_iff {p : Str} {d : Int} {row : List Pl} (hd : d.natAbs ≤ 10 ^ 30 - 1) (hr : ∀ x ∈ row, ∃ i j : Nat, x = ((i : Int), (j : Int)) ∧ i ≤ 10 ^ 30 - 1 ∧ j ≤ 10 ^ 30 - 1) : RdP p d row ↔ Txt.split p (Str.ofString " ") = numS d :: row.map plS := by
  constructor
  · rintro ⟨e, _, _⟩; rw [e]; exact split_part _ _
  · intro e
    refine ⟨?_, hd, hr⟩
    rw [(words_back p).2, e]; rfl
section
variable {P : Program} {w : World} {K : PySem.W.Frag} {mg : Str → Option Value} {base : Heap} {TT : List (Addr × Str)}
abbrev nPp : List Str := ["_law_text", "_law_drifts_here", "_law_goals", "_law_part", "_law_words", "_law_places", "_law_word"]
theorem sc_pp : FnScope nPp ["_law_text"] (C8.fnScope t__law_parts_in) := C8.fnScope_by (by decide +kernel)
/-- what _law_place_in gives for a word -/
def PlO (H : Hp) (z : Str) (v : V) : Prop := (∃ i j : Nat, z = plS ((i : Int), (j : Int)) ∧ i ≤ 10 ^ 30 - 1 ∧ j ≤ 10 ^ 30 - 1 ∧ PlAt H v ((i : Int), (j : Int))) ∨ (v = .non ∧ ∀ i j : Nat, z = plS ((i : Int), (j : Int)) → ¬ (i ≤ 10 ^ 30 - 1 ∧ j ≤ 10 ^ 30 - 1))
theorem PlO.mono {H H' : Hp} {z : Str} {v : V} (s : Same H H') (h : PlO H z v) : PlO H' z v := by
  rcases h with ⟨i, j, e, b1, b2, hp⟩ | h
  · exact .inl ⟨i, j, e, b1, b2, hp.mono s⟩
  · exact .inr h
/-- all are places, or one is none -/
theorem plo_all {H : Hp} : ∀ {us : List V} {zs : List Str}, Paired (fun v z => PlO H z v) us zs → (∃ row : List Pl, Paired (PlAt H) us row ∧ zs = row.map plS ∧ ∀ x ∈ row, ∃ i j : Nat, x = ((i : Int), (j : Int)) ∧ i ≤ 10 ^ 30 - 1 ∧ j ≤ 10 ^ 30 - 1) ∨
    (V.non ∈ us ∧ ∀ row : List Pl, (∀ x ∈ row, ∃ i j : Nat, x = ((i : Int), (j : Int)) ∧ i ≤ 10 ^ 30 - 1 ∧ j ≤ 10 ^ 30 - 1) → zs ≠ row.map plS)
  | [], [], .nil => .inl ⟨[], .nil, rfl, fun x hx => nomatch hx⟩
  | v :: us, z :: zs, .cons h t => by
    rcases h with ⟨i, j, e, b1, b2, hp⟩ | ⟨ev, no⟩
    · rcases plo_all t with ⟨row, h1, h2, h3⟩ | ⟨h1, h2⟩
      · refine .inl ⟨((i : Int), (j : Int)) :: row, .cons hp h1, by rw [e, h2]; rfl, fun x hx => ?_⟩
        rcases List.mem_cons.mp hx with rfl | hx
        · exact ⟨i, j, rfl, b1, b2⟩
        · exact h3 x hx
      · refine .inr ⟨List.mem_cons_of_mem _ h1, fun row hr e' => ?_⟩
        cases row with
        | nil => cases e'
        | cons x xs => exact h2 xs (fun y hy => hr y (List.mem_cons_of_mem _ hy)) (List.cons.inj e').2
    · refine .inr ⟨by rw [ev]; exact List.mem_cons_self, fun row hr e' => ?_⟩
      cases row with
      | nil => cases e'
      | cons x xs =>
        obtain ⟨i, j, rfl, b1, b2⟩ := hr x List.mem_cons_self
        exact no i j (List.cons.inj e').1 ⟨b1, b2⟩
/-- data: places or none -/
def PoN (d : PyData) : Prop := d = .none ∨ ∃ p : Pl, d = L2.FQ.plD p
theorem pon_shp {ds : List PyData} (h : ∀ d ∈ ds, PoN d) : SeqAt.shaped (.list ds) = true := by
  have lay : PyData.canLayAll0 ds = true := by
    induction ds with
    | nil => rfl
    | cons d ds ih =>
      simp only [PyData.canLayAll0, Bool.and_eq_true]
      refine ⟨?_, ih fun x hx => h x (List.mem_cons_of_mem _ hx)⟩
      rcases h d List.mem_cons_self with rfl | ⟨p, rfl⟩
      · rfl
      · show PyData.canLay0 (.tuple [.int p.1, .int p.2]) = true
        simp [PyData.canLay0, PyData.canLayAll0]
  have dep : PyData.depthAll ds ≤ 3 := by
    clear lay
    induction ds with
    | nil => simp [PyData.depthAll]
    | cons d ds ih =>
      have z := ih fun x hx => h x (List.mem_cons_of_mem _ hx)
      have y : d.depth ≤ 3 := by
        rcases h d List.mem_cons_self with rfl | ⟨p, rfl⟩
        · simp [PyData.depth]
        · show PyData.depth (.tuple [.int p.1, .int p.2]) ≤ 3
          simp [PyData.depth, PyData.depthAll]
      simp only [PyData.depthAll]
      omega
  unfold SeqAt.shaped
  simp only [PyData.canLay0, lay, PyData.depth, Bool.true_and]
  exact decide_eq_true (by omega)
theorem plo_data {K : PySem.W.Frag} {H : Hp} : ∀ {us : List V} {zs : List Str}, Paired (fun v z => PlO H z v) us zs → ∃ ds : List PyData, DpAll K H us ds ∧ (∀ d ∈ ds, PoN d) ∧ (ds.any fun z => PyData.eqv z .none) = decide (V.non ∈ us)
  | [], [], .nil => ⟨[], .nil, (fun d hd => nomatch hd), rfl⟩
  | v :: us, z :: zs, .cons h t => by
    obtain ⟨ds, h1, h2, h3⟩ := plo_data (K := K) t
    rcases h with ⟨i, j, _, _, _, hp⟩ | ⟨rfl, _⟩
    · refine ⟨L2.FQ.plD ((i : Int), (j : Int)) :: ds, .cons (dp_pl hp) h1, fun d hd => ?_, ?_⟩
      · rcases List.mem_cons.mp hd with rfl | hd
        · exact .inr ⟨_, rfl⟩
        · exact h2 d hd
      · obtain ⟨a, rfl, _⟩ := hp
        have e : PyData.eqv (L2.FQ.plD ((i : Int), (j : Int))) .none = false := by show PyData.eqv (.tuple [.int _, .int _]) .none = false; simp [PyData.eqv]
        rw [List.any_cons, e, h3, Bool.false_or]
        refine decide_eq_decide.mpr ⟨fun m => List.mem_cons_of_mem _ m, fun m => ?_⟩
        rcases List.mem_cons.mp m with m | m
        · cases m
        · exact m
    · refine ⟨.none :: ds, .cons .non h1, fun d hd => ?_, ?_⟩
      · rcases List.mem_cons.mp hd with rfl | hd
        · exact .inl rfl
        · exact h2 d hd
      · have e : PyData.eqv .none .none = true := by simp [PyData.eqv]
        rw [List.any_cons, e, Bool.true_or]
        exact (decide_eq_true List.mem_cons_self).symm
/-- what stands in the place of a part's outcome: its index where it does not read, or all that reads -/
def PpR (H : Hp) (ps : List Str) (u : V) (n : Nat) : Prop := (u = .non ∧ n < ps.length ∧ (∀ i p, i < n → ps[i]? = some p → ∃ d row, RdP p d row) ∧ ∀ p d row, ps[n]? = some p → ¬ RdP p d row) ∨
  (n = ps.length ∧ ∃ ds rows, ds.length = ps.length ∧ rows.length = ps.length ∧ DAt H u ds rows ∧ ∀ (i : Nat) p d row, ps[i]? = some p → ds[i]? = some d → rows[i]? = some row → RdP p d row)
def spPp : Sp := fun vs H Q _ => ∃ (t : Str), vs = [.str t] ∧ Asc t ∧ t.length ≤ 300000 ∧ ∀ (tp : Addr) (u : V) (n : Nat) H', Same H H' → H' tp = some (.tup [.int n, u]) → PpR H' (Txt.split t (Str.ofString " | ")) u n → Q (.ref tp) H'
end
end L2.FK
/-! _law_parts_in. -/
namespace L2.FK
open PySem PySem.Spec PyProof.Rows L2.FL FlT LamX TL
theorem spl_backG {S : List Nat} (hS : S ≠ []) : ∀ (n : Nat) (l acc : List Nat), l.length ≤ n → joinL S (spl S 0 acc l) = acc ++ l ∧ spl S 0 acc l ≠ []
  | _, [], acc, _ => by rw [spl_nil]; exact ⟨by simp [joinL], by simp⟩
  | 0, _ :: _, _, h => by simp at h
  | n + 1, c :: r, acc, hl => by
    have lS : 1 ≤ S.length := List.length_pos_iff.mpr hS
    by_cases h : pre S (c :: r) = true
    · rw [spl_hit h, spl_pass]
      rw [List.length_cons] at hl
      obtain ⟨z1, z2⟩ := spl_backG hS n (r.drop (S.length - 1)) [] (by rw [List.length_drop]; omega)
      refine ⟨?_, by simp⟩
      have ht : (c :: r).take S.length = S := by unfold pre at h; exact beq_iff_eq.mp h
      have hd : (c :: r).drop S.length = r.drop (S.length - 1) := by
        rw [show S.length = (S.length - 1) + 1 by omega, List.drop_succ_cons, Nat.add_sub_cancel]
      have e0 : S ++ r.drop (S.length - 1) = c :: r := by
        have z := List.take_append_drop S.length (c :: r)
        rw [ht, hd] at z
        exact z
      cases e : spl S 0 [] (r.drop (S.length - 1)) with
      | nil => exact absurd e z2
      | cons x xs =>
        rw [e] at z1
        show acc ++ (S ++ joinL S (x :: xs)) = _
        rw [z1, List.nil_append, e0]
    · have h : pre S (c :: r) = false := by cases z : pre S (c :: r) <;> simp [z] at h ⊢
      rw [spl_miss h]
      obtain ⟨z1, z2⟩ := spl_backG hS n r (acc ++ [c]) (by rw [List.length_cons] at hl; omega)
      exact ⟨by rw [z1, List.append_assoc]; rfl, z2⟩
theorem joinL_in {S : List Nat} : ∀ (L : List (List Nat)) (p : List Nat), p ∈ L → (∀ c ∈ p, c ∈ joinL S L) ∧ p.length ≤ (joinL S L).length
  | [], _, hp => nomatch hp
  | [x], p, hp => by rw [List.mem_singleton.mp hp]; exact ⟨fun c h => h, Nat.le_refl _⟩
  | x :: y :: ys, p, hp => by
    have e : joinL S (x :: y :: ys) = x ++ (S ++ joinL S (y :: ys)) := rfl
    rw [e, List.length_append, List.length_append]
    rcases List.mem_cons.mp hp with rfl | hp
    · exact ⟨fun c h => List.mem_append_left _ h, by omega⟩
    · obtain ⟨z1, z2⟩ := joinL_in (y :: ys) p hp
      exact ⟨fun c h => List.mem_append_right _ (List.mem_append_right _ (z1 c h)), by omega⟩
theorem joinL_count {S : List Nat} (hS : 1 ≤ S.length) : ∀ (L : List (List Nat)), L.length ≤ (joinL S L).length + 1
  | [] => by simp
  | [x] => by simp
  | x :: y :: ys => by
    have e : joinL S (x :: y :: ys) = x ++ (S ++ joinL S (y :: ys)) := rfl
    have z := joinL_count hS (y :: ys)
    rw [e, List.length_append, List.length_append, List.length_cons]
    omega
theorem bar_back (t : Str) : joinL [32, 124, 32] ((Txt.split t (Str.ofString " | ")).map tl) = tl t := by
  have z := split_spl t (Str.ofString " | ") (by rw [tl_bar]; simp) (kind_ok (by decide +kernel))
  rw [tl_bar] at z
  rw [z, (spl_backG (by simp) _ (tl t) [] (Nat.le_refl _)).1]; rfl
theorem bar_parts (t : Str) (ha : Asc t) : ∀ p ∈ Txt.split t (Str.ofString " | "), Asc p ∧ p.length ≤ t.length := fun p hp => by
  obtain ⟨z1, z2⟩ := joinL_in (S := [32, 124, 32]) ((Txt.split t (Str.ofString " | ")).map tl) (tl p) (List.mem_map.mpr ⟨p, hp, rfl⟩)
  rw [bar_back] at z1 z2
  exact ⟨fun c hc => ha c (z1 c hc), by rw [len_tl, len_tl]; exact z2⟩
theorem bar_count (t : Str) : (Txt.split t (Str.ofString " | ")).length ≤ t.length + 1 := by
  have z := joinL_count (S := [32, 124, 32]) (by simp) ((Txt.split t (Str.ofString " | ")).map tl)
  rw [bar_back, List.length_map, ← len_tl] at z
  exact z
theorem split_len {t : Str} : (Txt.split t (Str.ofString " ")).length ≤ t.length + 1 := by
  have z := split_spl t (Str.ofString " ") (by rw [tl_sp]; simp) (kind_ok (by decide +kernel))
  rw [tl_sp] at z
  obtain ⟨b, n⟩ := spl_backS 32 (tl t) []
  rw [← z, List.nil_append] at b
  rw [← z] at n
  have w := joinL_len (s := 32) n
  rw [b, ← len_tl] at w
  have g : ∀ L : List (List Nat), L.length ≤ wsum L := fun L => by
    unfold wsum
    induction L with
    | nil => exact Nat.le_refl _
    | cons x xs ih => rw [List.map_cons, List.sum_cons, List.length_cons]; omega
  have y := g ((Txt.split t (Str.ofString " ")).map tl)
  rw [List.length_map] at y
  omega
section
variable {P : Program} {w : World} {K : PySem.W.Frag} {mg : Str → Option Value} {base : Heap} {TT : List (Addr × Str)}
theorem ok_parts_in (h : Has K mg "_law_parts_in" t__law_parts_in ["_law_text"]) (B : Bl mg) (cN : C8.Cal P w K mg base 1 "_law_number_in" spNi []) (cP : C8.Cal P w K mg base 2 "_law_place_in" spPi []) : C8.Cal P w K mg base 3 "_law_parts_in" spPp [] := by
  refine cal_of h sc_pp (fun vs H Q E z => ?_) (fun f cdv A outer s H vs Q E hr z => ?_)
  · obtain ⟨t, rfl, _⟩ := z; rfl
  obtain ⟨t, rfl, ha, hz, q⟩ := z
  have nd := sc_pp.nd
  have hu65 : (A.deeper (envOfC "_law_parts_in" (C8.fnScope t__law_parts_in) s.heap.objs.size f cdv)).units + 65 < cLine := by have := hr.un; omega
  refine ⟨_, (pss_cons (ps_par (i := 1) (j := 2) (by rfl) nd rfl rfl (by decide) rfl rfl (pa_cons (pe_lst pa_nil) (pa_cons (pe_lst pa_nil) pa_nil)) rfl)
    (pss_cons (ps_for PassesOwn.never rfl (n_list K (pe_split (pv 0) pe_str)) (pg_name (i := 3) nd rfl (.inl rfl))
    (pss_cons (ps_set (i := 4) nd rfl (.inl rfl) (pe_split (pv 3) pe_str))
    (pss_cons (ps_setLc (i := 5) (own := [("_law_word", 6)]) (g := (gName 6)) (tt := tYes) rfl nd rfl rfl (sw_true rfl rfl rfl (by decide +kernel)) (n_list K (pe_slice sl_list (pv 4) (po_some pe_int) po_none)) (blkOk_by (own := [("_law_word", 6)]) (N := nPp) (sc := C8.fnScope t__law_parts_in) (by decide +kernel)) (fun _ _ _ _ _ => (pg_name (i := 6) nd rfl (.inl rfl))) (fun _ _ _ _ _ => pts_nil) (fun _ _ _ _ _ => (C8.pe_c cP hr (by decide) rfl (pa_cons (pv 6) pa_nil))))
    (C8.pss_cut (ps_if (PW.pt (pw_or (pt_cmpR op_isN (C8.pe_c cN hr (by decide) rfl (pa_cons (pe_ix (x_list K) (pv 4) pe_int (fun _ _ => rfl)) pa_nil)) pe_non (nomark _)) (pw_or1 (pt_cmpR (op_inD hu65) pe_non (pv 5) rfl)))) (pss_one (ps_ret (pe_tup (pa_cons (pe_callB (c_len K) (by rfl) B.len bt_len (pa_cons (pv 1) pa_nil)) (pa_cons pe_non pa_nil))))) pss_nil)
    (pss_cons (ps_expr (pe_bm PySem.F.plainAttrs_list PySem.F.slot_list_append PySem.F.type_list_append mt_append (pv 1) (pa_cons (C8.pe_c cN hr (by decide) rfl (pa_cons (pe_ix (x_list K) (pv 4) pe_int (fun _ _ => rfl)) pa_nil)) pa_nil)))
    (pss_one (ps_expr (pe_bm PySem.F.plainAttrs_list PySem.F.slot_list_append PySem.F.type_list_append mt_append (pv 2) (pa_cons (pv 5) pa_nil)))))))))
    (pss_one (ps_ret (pe_tup (pa_cons (pe_callB (c_len K) (by rfl) B.len bt_len (pa_cons (pv 1) pa_nil)) (pa_cons (pe_tup (pa_cons (pv 1) (pa_cons (pv 2) pa_nil))) pa_nil))))))), ?_⟩
  have fz : ∀ x : Nat, x ≤ 400000 → x ≤ sizeLine := fun x h => Nat.le_trans h (by decide)
  generalize eps : Txt.split t (Str.ofString " | ") = ps at q
  have hps := bar_parts t ha
  have hpl := bar_count t
  rw [eps] at hps hpl
  refine ⟨(by show 0 ≤ sizeLine; decide), fun D hD => ⟨(by show 0 ≤ sizeLine; decide), fun G hG => ⟨_, _, rfl, ?_⟩⟩⟩
  have s1 := (same_new hD (.lst [])).trans (same_new hG (.lst []))
  have gD : upd (upd H D (.lst [])) G (.lst []) D = some (.lst []) := (same_new hG _) _ _ upd_same
  have gG : upd (upd H D (.lst [])) G (.lst []) G = some (.lst []) := upd_same
  have nDG : D ≠ G := fun e => by rw [e, upd_same] at hG; cases hG
  have fD : H D = none := hD
  have fG : H G = none := by rw [upd_ne (Ne.symm nDG)] at hG; exact hG
  generalize upd (upd H D (.lst [])) G (.lst []) = H1 at s1 gD gG
  refine ⟨_, rfl, ⟨_, rfl⟩, t, _, rfl, rfl, (by decide +kernel), fz _ (by omega), fun lp hlp => ?_⟩
  rw [eps]
  have s2 := same_new hlp (.lst (ps.map V.str))
  have gp : upd H1 lp (.lst (ps.map V.str)) lp = some (.lst (ps.map V.str)) := upd_same
  have g2D := s2 _ _ gD
  have g2G := s2 _ _ gG
  have nlD : lp ≠ D := (ne_of_none gD hlp).symm
  have nlG : lp ≠ G := (ne_of_none gG hlp).symm
  generalize upd H1 lp (.lst (ps.map V.str)) = H2 at s2 gp g2D g2G
  have s02 := s1.trans s2
  refine ⟨lp, rfl, ⟨_, SqL.of gp⟩, for_it (walk_list (K := K) (a := lp) (xs := ps.map V.str)) (fun i σ H' => Same H (del D (del G H')) ∧ H' lp = some (.lst (ps.map V.str)) ∧ ∃ (ds : List Int) (gs : List V) (rows : List (List Pl)), H' D = some (.lst (ds.map V.int)) ∧ H' G = some (.lst gs) ∧ ds.length = i ∧ rows.length = i ∧ Paired (RowAt (del D (del G H'))) gs rows ∧
      (∀ (j : Nat) p d row, j < i → ps[j]? = some p → ds[j]? = some d → rows[j]? = some row → RdP p d row) ∧ ∃ x3 x4 x5 x6, σ = [some (.str t), some (.ref D), some (.ref G), x3, x4, x5, x6]) ?_ ?_ ?_ ?_⟩
  · refine ⟨fun a o e => by rw [del_ne (fun ea => by rw [ea, fD] at e; cases e), del_ne (fun ea => by rw [ea, fG] at e; cases e)]; exact s02 _ _ e, gp, [], [], [], g2D, g2G, rfl, rfl, .nil, fun j _ _ _ hj => by omega, _, _, _, _, rfl⟩
  · rintro i σ H' _ ⟨_, g, _⟩; exact SqL.of g
  · rintro i x σ H2x H3 hi ⟨s3, g3, ds, gs, rows, g3D, g3G, dl, rl, hpr, hrd, x3, x4, x5, x6, rfl⟩ ⟨rfl, hx⟩
    rw [List.length_map] at hi
    have hpi : ps[i]? = some ps[i] := List.getElem?_eq_getElem hi
    obtain ⟨pa, plen⟩ := hps ps[i] (List.getElem_mem hi)
    rw [List.getElem?_map, hpi] at hx
    have hx := (Option.some.inj hx).symm
    subst hx
    generalize ps[i] = p at hpi pa plen
    obtain ⟨w0, rest, ew⟩ : ∃ w0 rest, Txt.split p (Str.ofString " ") = w0 :: rest := by
      cases e : Txt.split p (Str.ofString " ") with
      | nil => exact absurd e (words_back p).1
      | cons a b => exact ⟨a, b, rfl⟩
    have wsa := words_asc pa
    have wsl := split_len (t := p)
    rw [ew] at wsa wsl
    rw [List.length_cons] at wsl
    have rd : ∀ d row, RdP p d row → w0 = numS d ∧ rest = row.map plS := fun d row hr => by
      have z := (rdp_iff hr.2.1 hr.2.2).mp hr
      rw [ew] at z
      exact ⟨(List.cons.inj z).1, (List.cons.inj z).2⟩
    have s03 : Same H H3 := s3.trans (del_same.trans del_same)
    refine ⟨_, rfl, ⟨_, rfl⟩, p, _, rfl, rfl, (by decide +kernel), fz _ (by omega), fun lw hlw => ?_⟩
    rw [ew]
    have s4 := same_new hlw (.lst ((w0 :: rest).map V.str))
    have g4 : upd H3 lw (.lst ((w0 :: rest).map V.str)) lw = some (.lst ((w0 :: rest).map V.str)) := upd_same
    generalize upd H3 lw (.lst ((w0 :: rest).map V.str)) = H4 at s4 g4
    refine ⟨_, rfl, _, rfl, lw, _, rfl, SqL.of g4, fun ls hls => ?_⟩
    have ec : cutV ((w0 :: rest).map V.str) (some 1) none = rest.map V.str := cutV_tail _ _
    rw [ec]
    have s5 := same_new hls (.lst (rest.map V.str))
    have g5 : upd H4 ls (.lst (rest.map V.str)) ls = some (.lst (rest.map V.str)) := upd_same
    generalize upd H4 ls (.lst (rest.map V.str)) = H5 at s5 g5
    refine ⟨ls, rfl, ⟨_, SqL.of g5⟩, fun D2 hD2 => ?_⟩
    refine lc_it (walk_list (K := K) (a := ls) (xs := rest.map V.str)) (fun j H' => Same H5 (del D2 H') ∧ ∃ us, H' D2 = some (.lst us) ∧ Paired (fun v z => PlO (del D2 H') z v) us (rest.take j)) ?_ ?_ ?_ ?_
    · exact ⟨by rw [del_upd]; exact same_del (Same.refl _) hD2, [], upd_same, by rw [List.take_zero]; exact .nil⟩
    · rintro j H' _ ⟨s', _⟩; exact SqL.of (del_same _ _ (s' _ _ g5))
    · rintro j x H6 H7 hj ⟨s6, us, hu, hpo⟩ ⟨rfl, hx⟩
      rw [List.length_map] at hj
      have hrj : rest[j]? = some rest[j] := List.getElem?_eq_getElem hj
      rw [List.getElem?_map, hrj] at hx
      have hx := (Option.some.inj hx).symm
      subst hx
      obtain ⟨za, zl⟩ := wsa rest[j] (List.mem_cons_of_mem _ (List.getElem_mem hj))
      generalize rest[j] = z at hrj za zl
      have ul := paired_len hpo
      rw [List.length_take] at ul
      have put : ∀ v H8, Same H7 H8 → PlO H8 z v → (∃ i j : Nat, PlAt H8 v ((i : Int), (j : Int))) ∨ v = .non → ∃ acc, H8 D2 = some (.lst acc) ∧ acc.length < sizeLine ∧ Same H5 (del D2 (upd H8 D2 (.lst (acc ++ [v])))) ∧ ∃ us, upd H8 D2 (.lst (acc ++ [v])) D2 = some (.lst us) ∧ Paired (fun v' z' => PlO (del D2 (upd H8 D2 (.lst (acc ++ [v])))) z' v') us (rest.take (j + 1)) := fun v H8 s8 hv hk => by
        refine ⟨us, s8 _ _ hu, Nat.lt_of_le_of_lt (show us.length ≤ 400000 by omega) (by decide), by rw [del_upd]; exact s6.trans (same_dels s8), _, upd_same, ?_⟩
        rw [del_upd, take_snoc hrj]
        refine paired_app (paired_mono hpo fun _ _ y => y.mono (same_dels s8)) (.cons ?_ .nil)
        rcases hv with ⟨i1, j1, e, b1, b2, hp1⟩ | hv
        · obtain ⟨t', et', ht'⟩ := hp1
          exact .inl ⟨i1, j1, e, b1, b2, t', et', by rw [del_ne (fun y => by rw [y, s8 _ _ hu] at ht'; cases ht')]; exact ht'⟩
        · exact .inr hv
      exact ⟨rfl, _, rfl, z, rfl, za, fz _ (by omega), fun i1 j1 e b1 b2 r H8 s8 hr8 => put r H8 s8 (.inl ⟨i1, j1, e, b1, b2, hr8⟩) (.inl ⟨i1, j1, hr8⟩), fun no H8 s8 => put .non H8 s8 (.inr ⟨rfl, no⟩) (.inr rfl)⟩
    rintro H6 ⟨s6, us, hu, hpo⟩
    rw [List.length_map, List.take_length] at hpo
    have s56 : Same H5 H6 := s6.trans del_same
    have s36 : Same H3 H6 := s4.trans (s5.trans s56)
    have hpo6 : Paired (fun v z => PlO H6 z v) us rest := paired_mono hpo fun _ _ y => y.mono del_same
    have gw6 := s56 _ _ (s5 _ _ g4)
    obtain ⟨a0, l0⟩ := wsa w0 List.mem_cons_self
    have g6D := s36 _ _ g3D
    have g6G := s36 _ _ g3G
    have bad : ∀ H' t2, Same H3 H' → H' t2 = none → (∀ d row, ¬ RdP p d row) → Q (.ref t2) (upd H' t2 (.tup [.int ((ds.map V.int).length : Nat), .non])) := fun H' t2 s' ht2 no =>
      q t2 .non i _ (s03.trans (s'.trans (same_new ht2 _))) (by rw [upd_same, List.length_map, dl]) (.inl ⟨rfl, hi, fun j p' hj hp' => ⟨_, _, hrd j p' (ds[j]'(by omega)) (rows[j]'(by omega)) hj hp' (List.getElem?_eq_getElem _) (List.getElem?_eq_getElem _)⟩, fun p' d row hp' hr => no d row (by rw [hpi] at hp'; cases hp'; exact hr)⟩)
    refine ⟨fun σ H' => Same H6 H' ∧ (∃ d row, RdP p d row ∧ Paired (PlAt H') us row) ∧ ∃ x6, σ = [some (.str t), some (.ref D), some (.ref G), some (.str p), some (.ref lw), some (.ref D2), x6], ?_, ?_⟩
    · refine ⟨_, rfl, lw, _, 0, .str w0, rfl, rfl, SqL.of gw6, atI_nat (j := 0) rfl, w0, rfl, a0, fz _ (by omega), fun H7 s7 => ⟨fun d e b => ⟨rfl, _, rfl, iteF ?_⟩, fun no => ⟨rfl, _, rfl, iteT (iteT ⟨_, rfl, D, _, rfl, .inl (SqL.of (s7 _ _ g6D)), (by show 2 ≤ sizeLine; decide), fun t2 ht2 => bad _ t2 (s36.trans s7) ht2 fun d row hr => no d (rd d row hr).1 hr.2.1⟩)⟩⟩⟩
      have hpo7 : Paired (fun v z => PlO H7 z v) us rest := paired_mono hpo6 fun _ _ y => y.mono s7
      obtain ⟨dd, hdp, hpn, hany⟩ := plo_data (K := K) hpo7
      refine ⟨_, rfl, .none, dd, .non, .lst (SqL.of (s7 _ _ hu)) hdp, rfl, pon_shp hpn, _, rfl, ?_⟩
      rw [hany]
      rcases plo_all hpo7 with ⟨row, h1, h2, h3⟩ | ⟨h1, h2⟩
      · have nn : V.non ∉ us := fun m => by
          have : ∀ {us : List V} {row : List Pl}, Paired (PlAt H7) us row → V.non ∉ us := fun {us row} y => by
            induction y with
            | nil => exact fun m => nomatch m
            | cons a _ ih =>
              intro m
              rcases List.mem_cons.mp m with m | m
              · obtain ⟨t', et', _⟩ := a
                rw [et'] at m; cases m
              · exact ih m
          exact this h1 m
        rw [decide_eq_false nn]
        exact iteF ⟨s7, ⟨d, row, (rdp_iff b h3).mpr (by rw [ew, e, h2]), h1⟩, _, rfl⟩
      · rw [decide_eq_true h1]
        exact iteT ⟨_, rfl, D, _, rfl, .inl (SqL.of (s7 _ _ g6D)), (by show 2 ≤ sizeLine; decide), fun t2 ht2 => bad _ t2 (s36.trans s7) ht2 fun d' row hr => h2 row hr.2.2 (rd d' row hr).2⟩
    rintro σ H7 ⟨s7, ⟨d, row, hrp, hpp⟩, x6', rfl⟩
    have s37 := s36.trans s7
    obtain ⟨ew0, erest⟩ := rd d row hrp
    refine ⟨_, rfl, .inl ⟨rfl, _, SqL.of (s7 _ _ g6D)⟩, _, rfl, lw, _, 0, .str w0, rfl, rfl, SqL.of (s7 _ _ gw6), atI_nat (j := 0) rfl, w0, rfl, a0, fz _ (by omega), fun H8 s8 => ⟨fun d' e' _ => ?_, fun no => absurd hrp.2.1 (no d ew0)⟩⟩
    have ed : d' = d := numS_inj (e'.symm.trans ew0)
    subst ed
    have s38 := s37.trans s8
    refine ⟨D, _, _, rfl, rfl, s38 _ _ g3D, Nat.lt_of_le_of_lt (show (ds.map V.int).length ≤ 400000 by rw [List.length_map]; omega) (by decide), ?_⟩
    have g8G := s38 _ _ g3G
    have g8D := s38 _ _ g3D
    have gul := paired_len hpr
    refine ⟨_, rfl, .inl ⟨rfl, _, SqL.of (by rw [upd_ne nDG.symm]; exact g8G)⟩, _, rfl, G, gs, .ref D2, rfl, rfl, by rw [upd_ne nDG.symm]; exact g8G, Nat.lt_of_le_of_lt (show gs.length ≤ 400000 by omega) (by decide), ?_⟩
    have ed : ∀ x y, del D (del G (upd (upd H8 D x) G y)) = del D (del G H8) := fun x y => by rw [del_upd, del_upd_ne nDG, del_upd]
    have sd := same_dels (D := D) (same_dels (D := G) s38)
    have n2D : D2 ≠ D := (ne_of_none (s5 _ _ (s4 _ _ g3D)) hD2).symm
    have n2G : D2 ≠ G := (ne_of_none (s5 _ _ (s4 _ _ g3G)) hD2).symm
    have dn : ∀ {c : Addr} {xs : List V}, H8 c = some (.tup xs) → del D (del G H8) c = some (.tup xs) := fun {c xs} hc => by
      rw [del_ne (fun e => by rw [e, g8D] at hc; cases hc), del_ne (fun e => by rw [e, g8G] at hc; cases hc)]; exact hc
    refine ⟨by rw [ed]; exact s3.trans sd, by rw [upd_ne nlG, upd_ne nlD]; exact s38 _ _ g3, ds ++ [d'], gs ++ [.ref D2], rows ++ [row], by rw [upd_ne nDG, upd_same, List.map_append]; rfl, upd_same, by rw [List.length_append, dl]; rfl, by rw [List.length_append, rl]; rfl, ?_, fun j p' d2 row2 hj h1 h2 h3 => ?_, _, _, _, _, rfl⟩
    · rw [ed]
      exact paired_snoc (rows_mono sd hpr) ⟨D2, us, rfl, by rw [del_ne n2D, del_ne n2G]; exact s8 _ _ (s7 _ _ hu), paired_mono hpp fun _ _ y => let ⟨t', et', ht'⟩ := y; ⟨t', et', dn (s8 _ _ ht')⟩⟩
    · by_cases c : j = i
      · subst c
        rw [hpi] at h1; cases h1
        rw [List.getElem?_append_right (by omega), dl, Nat.sub_self] at h2
        rw [List.getElem?_append_right (by omega), rl, Nat.sub_self] at h3
        cases h2; cases h3
        exact hrp
      · rw [List.getElem?_append_left (by omega)] at h2 h3
        exact hrd j p' d2 row2 (by omega) h1 h2 h3
  · rintro σ H3 ⟨s3, g3, ds, gs, rows, g3D, g3G, dl, rl, hpr, hrd, x3, x4, x5, x6, rfl⟩
    rw [List.length_map] at dl rl hrd
    have s03 : Same H H3 := s3.trans (del_same.trans del_same)
    refine ⟨_, rfl, D, _, rfl, .inl (SqL.of g3D), _, rfl, _, rfl, (by show 2 ≤ sizeLine; decide), fun t1 ht1 => ⟨(by show 2 ≤ sizeLine; decide), fun t2 ht2 => ?_⟩⟩
    have sa := same_new ht1 (.tup [V.ref D, .ref G])
    have sb := same_new ht2 (.tup [V.int ((ds.map V.int).length : Nat), .ref t1])
    have sab := sa.trans sb
    refine q t2 (.ref t1) ps.length _ (s03.trans sab) (by rw [upd_same, List.length_map, dl]) (.inr ⟨rfl, ds, rows, dl, rl, ⟨t1, _, _, rfl, sb _ _ upd_same, ⟨D, rfl, sab _ _ g3D⟩, ⟨G, gs, rfl, sab _ _ g3G, rows_mono ((del_same.trans del_same).trans sab) hpr⟩⟩, fun j p d row h1 h2 h3 => hrd j p d row (List.getElem?_eq_some_iff.mp h1).1 h1 h2 h3⟩)
end
end L2.FK
/-! What the law makes of an exception: the field by the word; _law_told. -/
namespace L2.FK
open PySem PySem.Spec PyProof.Rows L2.FL FlT
/-- the names under which exceptions keep what they tell -/
def xNames : List Str := ["word", "place", "most", "lane", "at", "name", "spot", "degree", "by", "count", "row"]
/-- the exception's fields tell the word x and, by it, the value v -/
def Tells (fs : List (Str × V)) (x : Str) (v : V) : Prop := List.lookup ("word" : Str) fs = some (.str x) ∧
  ((x ∈ (["BadPlace", "BadGoal", "NotBijective"] : List Str) ∧ List.lookup ("place" : Str) fs = some v) ∨ (x ∈ (["TooWide", "TooMany"] : List Str) ∧ List.lookup ("most" : Str) fs = some v) ∨ (x ∈ (["BadMove", "BadText", "BadSyntax", "BadProgram", "Stopped"] : List Str) ∧ List.lookup ("at" : Str) fs = some v) ∨
    (x ∈ (["Taken", "NoName", "NoBead", "NoMap"] : List Str) ∧ List.lookup ("name" : Str) fs = some v) ∨ (x = "BadLane" ∧ List.lookup ("lane" : Str) fs = some v) ∨ (x = "BadSpot" ∧ List.lookup ("spot" : Str) fs = some v) ∨ (x = "BadDegree" ∧ List.lookup ("degree" : Str) fs = some v) ∨
    (x = "Held" ∧ List.lookup ("by" : Str) fs = some v) ∨ (x = "BadCount" ∧ List.lookup ("count" : Str) fs = some v) ∨ (x = "BadPage" ∧ List.lookup ("row" : Str) fs = some v) ∨ (x ∈ (["BadLanes", "OtherLanes", "BadPlan", "BadName", "Full", "BadDeed", "NothingLeft"] : List Str) ∧ v = .non))
/-- the exception at p tells x and v -/
def TellsAt (K : PySem.W.Frag) (H : Hp) (cl : Value) (dd : Option Addr) (x : Str) (v : V) : Prop := ∃ (C d : Addr) (fs : List (Str × V)), cl = .ref C ∧ dd = some d ∧ XfC K C ∧ (∀ n ∈ xNames, PySem.W.findIn K (.ref C) n = some none) ∧ H d = some (.xd fs) ∧ Tells fs x v
def spField (K : PySem.W.Frag) (p : Addr × Obj) : Sp := fun vs H Q _ => vs = [.ref p.1] ∧ ∃ (x : Str) (v : V), TellsAt K H p.2.cls p.2.dict x v ∧ ∀ H', Same H H' → Q v H'
theorem sc_fd : FnScope ["_law_e"] ["_law_e"] (C8.fnScope sField) := C8.fnScope_by (by decide +kernel)
/-- the exception's fields stand -/
def Wd (K : PySem.W.Frag) (p : Addr × Obj) (fs : List (Str × V)) (H : Hp) : Prop := ∃ C d : Addr, p.2.cls = .ref C ∧ p.2.dict = some d ∧ XfC K C ∧ (∀ n ∈ xNames, PySem.W.findIn K (.ref C) n = some none) ∧ H d = some (.xd fs)
theorem Wd.mono {K : PySem.W.Frag} {p : Addr × Obj} {fs : List (Str × V)} {H H1 : Hp} (w : Wd K p fs H) (s : Same H H1) : Wd K p fs H1 := by
  obtain ⟨C, d, a, b, c, e, f⟩ := w
  exact ⟨C, d, a, b, c, e, s _ _ f⟩
theorem Wd.get {K : PySem.W.Frag} {p : Addr × Obj} {fs : List (Str × V)} {H : Hp} {n : Str} {v : V} {σ : St} {Q : VK} (w : Wd K p fs H) (hn : n ∈ xNames) (sl : σ[0]? = some (some (.ref p.1))) (l : fs.lookup n = some v) (q : Q v H) : tXp K p n (tVar 0) σ H Q := by
  obtain ⟨C, d, a, b, c, e, f⟩ := w
  exact ⟨_, sl, rfl, C, d, fs, v, a, b, c, e _ hn, f, l, q⟩
/-- word in (a, b, ..) -/
theorem Wd.isin {K : PySem.W.Frag} {p : Addr × Obj} {fs : List (Str × V)} {H : Hp} {x : Str} {σ : St} {k : Bool → Hp → Prop} {tl : TA} {ws : List V} (b : Bool) (w : Wd K p fs H) (sl : σ[0]? = some (some (.ref p.1))) (l : fs.lookup ("word" : Str) = some (.str x)) (r : ∀ H Q, Q ws H → tl σ H Q)
    (hl : ws.length ≤ sizeLine) (hf : ws.all flatV = true) (hb : inV (.str x) ws = b) (q : ∀ H2, Same H H2 → k b H2) : tTest (tOp (rIn K false) (tXp K p "word" (tVar 0)) (tTup tl)) σ H k := by
  show tXp K p "word" (tVar 0) σ H fun x H1 => tTup tl σ H1 fun y H2 => rIn K false x y H2 fun x H' => ∃ b, x = .bl b ∧ k b H'
  refine w.get (by decide) sl l ?_
  refine r _ _ (show ws.length ≤ sizeLine ∧ ∀ t, H t = none → rIn K false (.str x) (.ref t) (upd H t (.tup ws)) _ from ⟨hl, fun t ht => ?_⟩)
  refine ⟨t, ws, rfl, .inr (.inl (.inl upd_same)), rfl, hf, _, rfl, ?_⟩
  rw [hb]
  exact q _ (same_new ht _)
/-- word == a -/
theorem Wd.iseq {K : PySem.W.Frag} {p : Addr × Obj} {fs : List (Str × V)} {H : Hp} {x y : Str} {σ : St} {k : Bool → Hp → Prop} (b : Bool) (w : Wd K p fs H) (sl : σ[0]? = some (some (.ref p.1))) (l : fs.lookup ("word" : Str) = some (.str x)) (hb : decide (V.str x = V.str y) = b) (q : k b H) :
    tTest (tOp rEq (tXp K p "word" (tVar 0)) (tC (.str y))) σ H k := by
  show tXp K p "word" (tVar 0) σ H fun x H1 => rEq x (.str y) H1 fun x H' => ∃ b, x = .bl b ∧ k b H'
  refine w.get (by decide) sl l ⟨rfl, _, rfl, ?_⟩
  rw [hb]
  exact q
section
variable {P : Program} {w : World} {K : PySem.W.Frag} {mg : Str → Option Value} {base : Heap}
theorem ok_field (h : Has K mg "_law_field" sField ["_law_e"]) : ∃ f fd, FnP P w K mg base C8.CX0 1 f fd ["_law_e"] (spField K) ∧ mg "_law_field" = some (.ref f) ∧ PySem.W.keepIn K (.ref f) = true ∧ Binds K fd ["_law_e"] [] := by
  obtain ⟨f, fd, F, b⟩ := h
  obtain ⟨oc, od, dV, kV, doc, pm, an, cdv, ct, osl, rfl, lk, code⟩ := F.fn.ex
  refine ⟨f, _, fn_ofP lk code sc_fd (fun p vs H Q E z => by rw [z.1]; rfl) (fun p A outer s H vs Q E hot room z => ?_), F.mgf, F.kp, b⟩
  obtain ⟨rfl, x, v, ⟨C, d, fs, ec, ed, xf, no, hd, hw, tell⟩, q⟩ := z
  obtain ⟨_, ws, data, _⟩ := hot
  have mem : p ∈ (L2H.cxH C8.CX0 P w K mg base ["_law_e"] "_law_field" (C8.fnScope sField) f cdv A outer s H E p).pn := List.mem_cons_self
  refine ⟨_, (pss_cons (ps_if (pt_cmpR op_in_seq (pe_xp (p := p) mem ⟨ws, data⟩ (pv 0)) (pe_tup (pa_cons pe_str (pa_cons pe_str (pa_cons pe_str pa_nil)))) rfl) (pss_one (ps_ret (pe_xp (p := p) mem ⟨ws, data⟩ (pv 0)))) pss_nil)
    (pss_cons (ps_if (pt_cmpR op_in_seq (pe_xp (p := p) mem ⟨ws, data⟩ (pv 0)) (pe_tup (pa_cons pe_str (pa_cons pe_str pa_nil))) rfl) (pss_one (ps_ret (pe_xp (p := p) mem ⟨ws, data⟩ (pv 0)))) pss_nil)
    (pss_cons (ps_if (pt_cmpR op_in_seq (pe_xp (p := p) mem ⟨ws, data⟩ (pv 0)) (pe_tup (pa_cons pe_str (pa_cons pe_str (pa_cons pe_str (pa_cons pe_str (pa_cons pe_str pa_nil)))))) rfl) (pss_one (ps_ret (pe_xp (p := p) mem ⟨ws, data⟩ (pv 0)))) pss_nil)
    (pss_cons (ps_if (pt_cmpR op_in_seq (pe_xp (p := p) mem ⟨ws, data⟩ (pv 0)) (pe_tup (pa_cons pe_str (pa_cons pe_str (pa_cons pe_str (pa_cons pe_str pa_nil))))) rfl) (pss_one (ps_ret (pe_xp (p := p) mem ⟨ws, data⟩ (pv 0)))) pss_nil)
    (pss_cons (ps_if (pt_cmpR op_in_seq (pe_xp (p := p) mem ⟨ws, data⟩ (pv 0)) (pe_tup (pa_cons pe_str (pa_cons pe_str (pa_cons pe_str pa_nil)))) rfl) (pss_one (ps_ret (pe_ifExp (pt_cmpR op_eq (pe_xp (p := p) mem ⟨ws, data⟩ (pv 0)) pe_str (nomark _)) (pe_xp (p := p) mem ⟨ws, data⟩ (pv 0)) (pe_ifExp (pt_cmpR op_eq (pe_xp (p := p) mem ⟨ws, data⟩ (pv 0)) pe_str (nomark _)) (pe_xp (p := p) mem ⟨ws, data⟩ (pv 0)) (pe_xp (p := p) mem ⟨ws, data⟩ (pv 0)))))) pss_nil)
    (pss_cons (ps_if (pt_cmpR op_in_seq (pe_xp (p := p) mem ⟨ws, data⟩ (pv 0)) (pe_tup (pa_cons pe_str (pa_cons pe_str pa_nil))) rfl) (pss_one (ps_ret (pe_ifExp (pt_cmpR op_eq (pe_xp (p := p) mem ⟨ws, data⟩ (pv 0)) pe_str (nomark _)) (pe_xp (p := p) mem ⟨ws, data⟩ (pv 0)) (pe_xp (p := p) mem ⟨ws, data⟩ (pv 0))))) pss_nil)
    (pss_one (ps_ret (pe_ifExp (pt_cmpR op_eq (pe_xp (p := p) mem ⟨ws, data⟩ (pv 0)) pe_str (nomark _)) (pe_xp (p := p) mem ⟨ws, data⟩ (pv 0)) pe_non))))))))), ?_⟩
  have wd : Wd K p fs H := ⟨C, d, ec, ed, xf, no, hd⟩
  have step : ∀ (b : Bool) {H1 : Hp} {ws' : List V} {tl : TA} {k : Bool → Hp → Prop}, Same H H1 → (∀ H Q, Q ws' H → tl (L2.start ["_law_e"] [.ref p.1]) H Q) → ws'.length ≤ sizeLine → ws'.all flatV = true → inV (.str x) ws' = b → (∀ H2, Same H H2 → k b H2) →
      tTest (tOp (rIn K false) (tXp K p "word" (tVar 0)) (tTup tl)) (L2.start ["_law_e"] [.ref p.1]) H1 k := fun b {H1 ws' tl k} s r hl hf hb q => (wd.mono s).isin b rfl hw r hl hf hb fun H2 s2 => q H2 (s.trans s2)
  rcases tell with ⟨hx, hv⟩ | ⟨hx, hv⟩ | ⟨hx, hv⟩ | ⟨hx, hv⟩ | ⟨rfl, hv⟩ | ⟨rfl, hv⟩ | ⟨rfl, hv⟩ | ⟨rfl, hv⟩ | ⟨rfl, hv⟩ | ⟨rfl, hv⟩ | ⟨hx, rfl⟩
  · skip
    have y0 : inV (.str x) [.str "BadPlace", .str "BadGoal", .str "NotBijective"] = true := by
      simp only [List.mem_cons, List.not_mem_nil, or_false] at hx
      rcases hx with rfl | rfl | rfl <;> rfl
    refine step true (Same.refl _) (fun _ _ z => z) (by decide) rfl y0 fun H1 s1 => iteT ?_
    exact (wd.mono s1).get (by decide) rfl hv (q _ s1)
  · skip
    have y0 : inV (.str x) [.str "BadPlace", .str "BadGoal", .str "NotBijective"] = false := by
      simp only [List.mem_cons, List.not_mem_nil, or_false] at hx
      rcases hx with rfl | rfl <;> rfl
    have y1 : inV (.str x) [.str "TooWide", .str "TooMany"] = true := by
      simp only [List.mem_cons, List.not_mem_nil, or_false] at hx
      rcases hx with rfl | rfl <;> rfl
    refine step false (Same.refl _) (fun _ _ z => z) (by decide) rfl y0 fun H1 s1 => iteF ?_
    refine step true s1 (fun _ _ z => z) (by decide) rfl y1 fun H2 s2 => iteT ?_
    exact (wd.mono s2).get (by decide) rfl hv (q _ s2)
  · skip
    have y0 : inV (.str x) [.str "BadPlace", .str "BadGoal", .str "NotBijective"] = false := by
      simp only [List.mem_cons, List.not_mem_nil, or_false] at hx
      rcases hx with rfl | rfl | rfl | rfl | rfl <;> rfl
    have y1 : inV (.str x) [.str "TooWide", .str "TooMany"] = false := by
      simp only [List.mem_cons, List.not_mem_nil, or_false] at hx
      rcases hx with rfl | rfl | rfl | rfl | rfl <;> rfl
    have y2 : inV (.str x) [.str "BadMove", .str "BadText", .str "BadSyntax", .str "BadProgram", .str "Stopped"] = true := by
      simp only [List.mem_cons, List.not_mem_nil, or_false] at hx
      rcases hx with rfl | rfl | rfl | rfl | rfl <;> rfl
    refine step false (Same.refl _) (fun _ _ z => z) (by decide) rfl y0 fun H1 s1 => iteF ?_
    refine step false s1 (fun _ _ z => z) (by decide) rfl y1 fun H2 s2 => iteF ?_
    refine step true s2 (fun _ _ z => z) (by decide) rfl y2 fun H3 s3 => iteT ?_
    exact (wd.mono s3).get (by decide) rfl hv (q _ s3)
  · skip
    have y0 : inV (.str x) [.str "BadPlace", .str "BadGoal", .str "NotBijective"] = false := by
      simp only [List.mem_cons, List.not_mem_nil, or_false] at hx
      rcases hx with rfl | rfl | rfl | rfl <;> rfl
    have y1 : inV (.str x) [.str "TooWide", .str "TooMany"] = false := by
      simp only [List.mem_cons, List.not_mem_nil, or_false] at hx
      rcases hx with rfl | rfl | rfl | rfl <;> rfl
    have y2 : inV (.str x) [.str "BadMove", .str "BadText", .str "BadSyntax", .str "BadProgram", .str "Stopped"] = false := by
      simp only [List.mem_cons, List.not_mem_nil, or_false] at hx
      rcases hx with rfl | rfl | rfl | rfl <;> rfl
    have y3 : inV (.str x) [.str "Taken", .str "NoName", .str "NoBead", .str "NoMap"] = true := by
      simp only [List.mem_cons, List.not_mem_nil, or_false] at hx
      rcases hx with rfl | rfl | rfl | rfl <;> rfl
    refine step false (Same.refl _) (fun _ _ z => z) (by decide) rfl y0 fun H1 s1 => iteF ?_
    refine step false s1 (fun _ _ z => z) (by decide) rfl y1 fun H2 s2 => iteF ?_
    refine step false s2 (fun _ _ z => z) (by decide) rfl y2 fun H3 s3 => iteF ?_
    refine step true s3 (fun _ _ z => z) (by decide) rfl y3 fun H4 s4 => iteT ?_
    exact (wd.mono s4).get (by decide) rfl hv (q _ s4)
  · skip
    refine step false (Same.refl _) (fun _ _ z => z) (by decide) rfl rfl fun H1 s1 => iteF ?_
    refine step false s1 (fun _ _ z => z) (by decide) rfl rfl fun H2 s2 => iteF ?_
    refine step false s2 (fun _ _ z => z) (by decide) rfl rfl fun H3 s3 => iteF ?_
    refine step false s3 (fun _ _ z => z) (by decide) rfl rfl fun H4 s4 => iteF ?_
    refine step true s4 (fun _ _ z => z) (by decide) rfl rfl fun H5 s5 => iteT ?_
    refine (wd.mono s5).iseq true rfl hw (by decide) (iteT ?_)
    exact (wd.mono s5).get (by decide) rfl hv (q _ s5)
  · skip
    refine step false (Same.refl _) (fun _ _ z => z) (by decide) rfl rfl fun H1 s1 => iteF ?_
    refine step false s1 (fun _ _ z => z) (by decide) rfl rfl fun H2 s2 => iteF ?_
    refine step false s2 (fun _ _ z => z) (by decide) rfl rfl fun H3 s3 => iteF ?_
    refine step false s3 (fun _ _ z => z) (by decide) rfl rfl fun H4 s4 => iteF ?_
    refine step true s4 (fun _ _ z => z) (by decide) rfl rfl fun H5 s5 => iteT ?_
    refine (wd.mono s5).iseq false rfl hw (by decide) (iteF ?_)
    refine (wd.mono s5).iseq true rfl hw (by decide) (iteT ?_)
    exact (wd.mono s5).get (by decide) rfl hv (q _ s5)
  · skip
    refine step false (Same.refl _) (fun _ _ z => z) (by decide) rfl rfl fun H1 s1 => iteF ?_
    refine step false s1 (fun _ _ z => z) (by decide) rfl rfl fun H2 s2 => iteF ?_
    refine step false s2 (fun _ _ z => z) (by decide) rfl rfl fun H3 s3 => iteF ?_
    refine step false s3 (fun _ _ z => z) (by decide) rfl rfl fun H4 s4 => iteF ?_
    refine step true s4 (fun _ _ z => z) (by decide) rfl rfl fun H5 s5 => iteT ?_
    refine (wd.mono s5).iseq false rfl hw (by decide) (iteF ?_)
    refine (wd.mono s5).iseq false rfl hw (by decide) (iteF ?_)
    exact (wd.mono s5).get (by decide) rfl hv (q _ s5)
  · skip
    refine step false (Same.refl _) (fun _ _ z => z) (by decide) rfl rfl fun H1 s1 => iteF ?_
    refine step false s1 (fun _ _ z => z) (by decide) rfl rfl fun H2 s2 => iteF ?_
    refine step false s2 (fun _ _ z => z) (by decide) rfl rfl fun H3 s3 => iteF ?_
    refine step false s3 (fun _ _ z => z) (by decide) rfl rfl fun H4 s4 => iteF ?_
    refine step false s4 (fun _ _ z => z) (by decide) rfl rfl fun H5 s5 => iteF ?_
    refine step true s5 (fun _ _ z => z) (by decide) rfl rfl fun H6 s6 => iteT ?_
    refine (wd.mono s6).iseq true rfl hw (by decide) (iteT ?_)
    exact (wd.mono s6).get (by decide) rfl hv (q _ s6)
  · skip
    refine step false (Same.refl _) (fun _ _ z => z) (by decide) rfl rfl fun H1 s1 => iteF ?_
    refine step false s1 (fun _ _ z => z) (by decide) rfl rfl fun H2 s2 => iteF ?_
    refine step false s2 (fun _ _ z => z) (by decide) rfl rfl fun H3 s3 => iteF ?_
    refine step false s3 (fun _ _ z => z) (by decide) rfl rfl fun H4 s4 => iteF ?_
    refine step false s4 (fun _ _ z => z) (by decide) rfl rfl fun H5 s5 => iteF ?_
    refine step true s5 (fun _ _ z => z) (by decide) rfl rfl fun H6 s6 => iteT ?_
    refine (wd.mono s6).iseq false rfl hw (by decide) (iteF ?_)
    exact (wd.mono s6).get (by decide) rfl hv (q _ s6)
  · skip
    refine step false (Same.refl _) (fun _ _ z => z) (by decide) rfl rfl fun H1 s1 => iteF ?_
    refine step false s1 (fun _ _ z => z) (by decide) rfl rfl fun H2 s2 => iteF ?_
    refine step false s2 (fun _ _ z => z) (by decide) rfl rfl fun H3 s3 => iteF ?_
    refine step false s3 (fun _ _ z => z) (by decide) rfl rfl fun H4 s4 => iteF ?_
    refine step false s4 (fun _ _ z => z) (by decide) rfl rfl fun H5 s5 => iteF ?_
    refine step false s5 (fun _ _ z => z) (by decide) rfl rfl fun H6 s6 => iteF ?_
    refine (wd.mono s6).iseq true rfl hw (by decide) (iteT ?_)
    exact (wd.mono s6).get (by decide) rfl hv (q _ s6)
  · skip
    have y0 : inV (.str x) [.str "BadPlace", .str "BadGoal", .str "NotBijective"] = false := by
      simp only [List.mem_cons, List.not_mem_nil, or_false] at hx
      rcases hx with rfl | rfl | rfl | rfl | rfl | rfl | rfl <;> rfl
    have y1 : inV (.str x) [.str "TooWide", .str "TooMany"] = false := by
      simp only [List.mem_cons, List.not_mem_nil, or_false] at hx
      rcases hx with rfl | rfl | rfl | rfl | rfl | rfl | rfl <;> rfl
    have y2 : inV (.str x) [.str "BadMove", .str "BadText", .str "BadSyntax", .str "BadProgram", .str "Stopped"] = false := by
      simp only [List.mem_cons, List.not_mem_nil, or_false] at hx
      rcases hx with rfl | rfl | rfl | rfl | rfl | rfl | rfl <;> rfl
    have y3 : inV (.str x) [.str "Taken", .str "NoName", .str "NoBead", .str "NoMap"] = false := by
      simp only [List.mem_cons, List.not_mem_nil, or_false] at hx
      rcases hx with rfl | rfl | rfl | rfl | rfl | rfl | rfl <;> rfl
    have y4 : inV (.str x) [.str "BadLane", .str "BadSpot", .str "BadDegree"] = false := by
      simp only [List.mem_cons, List.not_mem_nil, or_false] at hx
      rcases hx with rfl | rfl | rfl | rfl | rfl | rfl | rfl <;> rfl
    have y5 : inV (.str x) [.str "Held", .str "BadCount"] = false := by
      simp only [List.mem_cons, List.not_mem_nil, or_false] at hx
      rcases hx with rfl | rfl | rfl | rfl | rfl | rfl | rfl <;> rfl
    have yn : decide (V.str x = V.str "BadPage") = false := by
      simp only [List.mem_cons, List.not_mem_nil, or_false] at hx
      rcases hx with rfl | rfl | rfl | rfl | rfl | rfl | rfl <;> decide
    refine step false (Same.refl _) (fun _ _ z => z) (by decide) rfl y0 fun H1 s1 => iteF ?_
    refine step false s1 (fun _ _ z => z) (by decide) rfl y1 fun H2 s2 => iteF ?_
    refine step false s2 (fun _ _ z => z) (by decide) rfl y2 fun H3 s3 => iteF ?_
    refine step false s3 (fun _ _ z => z) (by decide) rfl y3 fun H4 s4 => iteF ?_
    refine step false s4 (fun _ _ z => z) (by decide) rfl y4 fun H5 s5 => iteF ?_
    refine step false s5 (fun _ _ z => z) (by decide) rfl y5 fun H6 s6 => iteF ?_
    exact (wd.mono s6).iseq false rfl hw yn (iteF (q _ s6))
end
end L2.FK
/-! Defs that may raise: promises by cases. -/
namespace L2.FK
open PySem PySem.Spec PyProof.Rows L2.FL FlT
/-- a def of the module that may raise -/
def May (P : Program) (w : World) (K : PySem.W.Frag) (mg : Str → Option Value) (base : Heap) (k : Nat) (x : Str) (ps : List Str) (sp : Sp) : Prop := ∃ f fd, FnOk P w K mg base (L2N.CX P w) k f fd ps sp ∧ mg x = some (.ref f) ∧ PySem.W.keepIn K (.ref f) = true ∧ Binds K fd ps []
/-- a method that may raise -/
def MayM (P : Program) (w : World) (K : PySem.W.Frag) (mg : Str → Option Value) (base : Heap) (k : Nat) (C : Addr) (m : Str) (ps : List Str) (sp : Sp) : Prop := ∃ f fd, Cls K C ∧ Meth K C m f ∧ FnOk P w K mg base (L2N.CX P w) k f fd ps sp ∧ Binds K fd ps []
/-- a promise by cases -/
theorem fn_or {P : Program} {w : World} {K : PySem.W.Frag} {mg : Str → Option Value} {base : Heap} {CX : CXT} {k : Nat} {f : Addr} {fd : FuncData} {ps : List Str} {sp sp' : Sp} (F : FnOk P w K mg base CX k f fd ps sp) (G : FnOk P w K mg base CX k f fd ps sp') :
    FnOk P w K mg base CX k f fd ps (fun vs H Q E => sp vs H Q E ∨ sp' vs H Q E) :=
  ⟨fun vs H Q E z => z.elim (F.len vs H Q E) (G.len vs H Q E), fun A outer s H args us vs Q E hr e0 hb r z => z.elim (F.run A outer s H args us vs Q E hr e0 hb r) (G.run A outer s H args us vs Q E hr e0 hb r)⟩
/-- what does not raise is a promise where raising is allowed, too -/
theorem fn_cx {P : Program} {w : World} {K : PySem.W.Frag} {mg : Str → Option Value} {base : Heap} {CX : CXT} {k : Nat} {f : Addr} {fd : FuncData} {ps : List Str} {sp : Sp} (F : FnOk P w K mg base C8.CX0 k f fd ps sp) : FnOk P w K mg base CX k f fd ps sp :=
  ⟨F.len, fun A outer s H args us vs Q E hr e0 hb r z => codeAny_mono (F.run A outer s H args us vs Q E hr e0 hb r z) fun out t q => by
    match out, q with
    | .error e, q => exact q.elim
    | .ok (.ret u), q => exact q
    | .ok .next, q => exact q.elim
    | .ok .brk, q => exact q.elim
    | .ok .cont, q => exact q.elim⟩
theorem may_imp {P : Program} {w : World} {K : PySem.W.Frag} {mg : Str → Option Value} {base : Heap} {k : Nat} {x : Str} {ps : List Str} {sp sp' : Sp} (h : May P w K mg base k x ps sp) (i : ∀ vs H Q E, sp' vs H Q E → sp vs H Q E) : May P w K mg base k x ps sp' := by
  obtain ⟨f, fd, F, a, b, c⟩ := h
  exact ⟨f, fd, F.imp i, a, b, c⟩
theorem may_mono {P : Program} {w : World} {K : PySem.W.Frag} {mg : Str → Option Value} {base : Heap} {k k' : Nat} {x : Str} {ps : List Str} {sp : Sp} (h : May P w K mg base k x ps sp) (i : k ≤ k') : May P w K mg base k' x ps sp := by
  obtain ⟨f, fd, F, a, b, c⟩ := h
  exact ⟨f, fd, F.mono i, a, b, c⟩
section
variable {P : Program} {w : World} {K : PySem.W.Frag} {mg : Str → Option Value} {base : Heap} {C : Addr}
/-- a def over which exceptions pass, called -/
theorem pe_may {X : Cx} {j k : Nat} {x : Str} {ps : List Str} {sp : Sp} {e : Expr} {es : List Expr} {t : TA} {p pos : Pos} {E : XK} {W : WX} (h : May X.prog X.w X.K X.mg X.base k x ps sp) (hr : Room j X.A) (hk : k ≤ j) (tk : L2N.Takes X W) (hW : ∀ cls d σ H, E cls d H → W cls d σ H) (hg : Gl X x) (ha : PA X (e :: es) t)
    (hdb : (x == ("__debug__" : Str)) = false := by decide) (he : starEach (e :: es) X.env = (false, eval e X.env) :: starEach es X.env := by rfl) (hpl : (backTo pos (starEach es X.env)).any (·.1) = false := by rfl) :
    PE X (.Call (.Name x p) (e :: es) [] pos) (tCall sp [] E t) := by
  obtain ⟨f, fd, F, a, b, c⟩ := h
  exact pe_call F (hr.mono hk) hg a b c .nil (L2N.passes_call tk hW) ha hdb he hpl
theorem cal_may {k : Nat} {x : Str} {ps : List Str} {sp : Sp} (h : ∃ f fd, FnOk P w K mg base C8.CX0 k f fd ps sp ∧ mg x = some (.ref f) ∧ PySem.W.keepIn K (.ref f) = true ∧ Binds K fd ps []) : May P w K mg base k x ps sp := by
  obtain ⟨f, fd, F, a, b, c⟩ := h
  exact ⟨f, fd, fn_cx F, a, b, c⟩
/-- .. of a def called by its name -/
theorem may_of_cal {k : Nat} {x : Str} {sp sp' : Sp} (h : C8.Cal P w K mg base k x sp []) (i : ∀ vs H Q E, sp' vs H Q E → sp vs H Q E) : ∃ ps, May P w K mg base k x ps sp' := by
  obtain ⟨f, fd, ps, ds, F, m, kp, b, hv⟩ := h.ex
  cases hv
  exact ⟨ps, f, fd, fn_cx (F.imp i), m, kp, b⟩
/-- what may raise and does not -/
theorem cal_of_may {k : Nat} {x : Str} {ps : List Str} {sp sp0 : Sp} (h : May P w K mg base k x ps sp) (i : ∀ vs H Q E, sp0 vs H Q E → sp vs H Q C8.E0) : C8.Cal P w K mg base k x sp0 [] := by
  obtain ⟨f, fd, F, m, kp, b⟩ := h
  refine ⟨f, fd, ps, [], ⟨fun vs H Q E z => F.len vs H Q C8.E0 (i vs H Q E z), fun A outer s H args us vs Q E hr e0 hb r z => ?_⟩, m, kp, b, .nil⟩
  refine codeAny_mono (F.run A outer s H args us vs Q C8.E0 hr e0 hb r (i vs H Q E z)) fun out t q => ?_
  match out, q with
  | .error e, q => obtain ⟨_, _, _, _, _, _, _, _, _, _, _, _, z⟩ := q; exact z.elim
  | .ok (.ret u), q => exact q
  | .ok .next, q => exact q.elim
  | .ok .brk, q => exact q.elim
  | .ok .cont, q => exact q.elim
/-- the promise of a def that may raise, by its body -/
theorem may_of {x : Str} {st : Stmt} {N ps : List Str} {k : Nat} {sp : Sp} (h : Has K mg x st ps) (S : FnScope N ps (C8.fnScope st)) (len : ∀ vs H Q E, sp vs H Q E → vs.length = ps.length)
    (hbody : ∀ (f : Addr) (cdv : Value) (A : Around) (outer : List Env) (s : Shared) (H : Hp) (vs : List V) (Q : VK) (E : XK), Room k (A.deeper (envOfC x (C8.fnScope st) s.heap.objs.size f cdv)) → sp vs H Q E →
      ∃ t, PSs (cxOf (L2N.CX P w) P w K mg base N x (C8.fnScope st) f cdv A outer s H E) (C8.fnBody st) t ∧ t { nx := fun _ H' => Q .non H', rt := Q } (start N vs) H) : May P w K mg base (k + 1) x ps sp := by
  obtain ⟨f, fd, F, b⟩ := h
  obtain ⟨oc, od, dV, kV, doc, pm, an, cdv, ct, osl, rfl, lk, code⟩ := F.fn.ex
  exact ⟨f, _, fn_of lk code S len fun A outer s H vs Q E hr hs => hbody f cdv A outer s H vs Q E hr hs, F.mgf, F.kp, b⟩
end
end L2.FK
/-! The exceptions over LaneError: made, raised; promises by cases. -/
namespace L2.FK
open PySem PySem.Spec PyProof.Rows L2.FL FlT
abbrev sLEI : Stmt := inClass sLaneError 0
/-- the class C may be made, its instances take the fields -/
structure Exc1 (K : PySem.W.Frag) (C : Addr) : Prop where
  oex : OexC K C
  no : ∀ n ∈ xNames, PySem.W.findIn K (.ref C) n = some none
/-- the class at C is made by its name x; sp: its __init__ -/
def Mks (P : Program) (w : World) (K : PySem.W.Frag) (mg : Str → Option Value) (base : Heap) (k : Nat) (x : Str) (C : Addr) (ps : List Str) (sp : Sp) : Prop := Exc1 K C ∧ mg x = some (.ref C) ∧ ∃ g fd, PySem.W.findIn K (.ref C) "__init__" = some (some (.ref g)) ∧ PySem.W.typeIn K (.ref g) = some (.type "function") ∧ FnOk P w K mg base C8.CX0 k g fd ps sp ∧ Binds K fd ps []
def wordF (x : Str) : List (Str × V) := [("word", .str x), ("word", .str "LaneError")]
def fldF (x fn : Str) (v : V) : List (Str × V) := [("word", .str x), (fn, v), ("word", .str "LaneError")]
abbrev placeF (x : Str) (v : V) : List (Str × V) := fldF x "place" v
section
variable {P : Program} {w : World} {K : PySem.W.Frag} {mg : Str → Option Value} {base : Heap} {C : Addr}
def spLEI (K : PySem.W.Frag) : Sp := fun vs H Q _ => ∃ a C : Addr, vs = [.ref a] ∧ Exc1 K C ∧ H a = some (exo a C none) ∧ ∀ dx, H dx = none → dx ≠ a → Q .non (upd (upd H dx (exd dx [("word", .str "LaneError")])) a (exo a C (some dx)))
theorem sc_lei : FnScope ["self"] ["self"] (C8.fnScope sLEI) := C8.fnScope_by (by decide +kernel)
theorem ok_lei {f : Addr} {fd : FuncData} (F : C8.Fun K "__init__" "LaneError.__init__" sLEI f fd) : FnOk P w K mg base C8.CX0 1 f fd ["self"] (spLEI K) := by
  obtain ⟨oc, od, dV, kV, doc, pm, an, cdv, ct, osl, rfl, lk, code⟩ := F.ex
  refine fn_of lk code sc_lei (fun vs H Q E z => ?_) (fun A outer s H vs Q E hr z => ?_)
  · obtain ⟨a, C, rfl, _⟩ := z; rfl
  obtain ⟨a, C, rfl, x, ha, q⟩ := z
  refine ⟨_, pss_one (ps_ost (pv 0) pe_str), ?_⟩
  exact ⟨_, rfl, a, C, rfl, x.oex, x.no _ (by decide), .inl ⟨ha, fun dx n ne => q dx n ne⟩⟩
/-- what a class's __init__ without arguments leaves: its own word over LaneError's -/
def spXI (K : PySem.W.Frag) (x : Str) : Sp := fun vs H Q _ => ∃ a C : Addr, vs = [.ref a] ∧ Exc1 K C ∧ H a = some (exo a C none) ∧
  ∀ dx, H dx = none → dx ≠ a → Q .non (upd (upd (upd H dx (exd dx [("word", .str "LaneError")])) a (exo a C (some dx))) dx (exd dx (wordF x)))
/-- what the __init__ of a class with a field leaves -/
def spXF (K : PySem.W.Frag) (x fn : Str) : Sp := fun vs H Q _ => ∃ (a C : Addr) (v : V), vs = [.ref a, v] ∧ Exc1 K C ∧ H a = some (exo a C none) ∧
  ∀ dx, H dx = none → dx ≠ a → Q .non (upd (upd (upd (upd H dx (exd dx [("word", .str "LaneError")])) a (exo a C (some dx))) dx (exd dx [(fn, v), ("word", .str "LaneError")])) dx (exd dx (fldF x fn v)))
/-- an exception of the class X at C with these fields leaves the call -/
def Rz (X : Addr) (fs : List (Str × V)) (H : Hp) (E : XK) : Prop := ∀ d H', Same H H' → H' d = some (.xd fs) → E (.ref X) (some d) H'
theorem Rz.same {X : Addr} {fs : List (Str × V)} {H H1 : Hp} {E : XK} (r : Rz X fs H E) (s : Same H H1) : Rz X fs H1 E := fun d H' s' e => r d H' (s.trans s') e
theorem made_word {C : Addr} {x : Str} {H : Hp} {Q : XK} (X : Exc1 K C) (q : Rz C (wordF x) H Q) : mkW C (spXI K x) [] H Q := by
  refine ⟨by decide, fun a ha => ⟨a, C, rfl, X, upd_same, fun dx n ne => ⟨rfl, dx, _, ?_, upd_same, ?_, ?_⟩⟩⟩
  · rw [upd_ne (Ne.symm ne), upd_same]
  · rw [upd_ne ne] at n; exact n
  · refine q dx _ (fun b o e => ?_) upd_same
    have hb : b ≠ a := ne_of_none e ha
    have hd : b ≠ dx := by
      rw [upd_ne ne] at n
      exact ne_of_none e n
    rw [upd_ne hd, L2.del_ne hb, upd_ne hd, upd_ne hb, upd_ne hd, upd_ne hb]
    exact e
theorem made_fld {C : Addr} {x fn : Str} {v : V} {H : Hp} {Q : XK} (X : Exc1 K C) (q : Rz C (fldF x fn v) H Q) : mkW C (spXF K x fn) [v] H Q := by
  refine ⟨(by show 1 ≤ 1000; decide), fun a ha => ⟨a, C, v, rfl, X, upd_same, fun dx n ne => ⟨rfl, dx, _, ?_, upd_same, ?_, ?_⟩⟩⟩
  · rw [upd_ne (Ne.symm ne), upd_ne (Ne.symm ne), upd_same]
  · rw [upd_ne ne] at n; exact n
  · refine q dx _ (fun b o e => ?_) upd_same
    have hb : b ≠ a := ne_of_none e ha
    have hd : b ≠ dx := by
      rw [upd_ne ne] at n
      exact ne_of_none e n
    rw [upd_ne hd, L2.del_ne hb, upd_ne hd, upd_ne hd, upd_ne hb, upd_ne hd, upd_ne hb]
    exact e
/-- raise X() -/
theorem pr_word {X : Cx} {j : Nat} {x : Str} {C : Addr} {E : XK} {np pos pos' : Pos} (mk : Mks X.prog X.w X.K X.mg X.base 2 x C ["self"] (spXI X.K x)) (hr : Room j X.A) (hk : 3 ≤ j) (hg : Gl X x) (tk : L2N.Takes X (fun cls d _ H => E cls d H) := by exact L2N.takes_of rfl rfl rfl rfl) (h0 : Passes C8.CX0 X (fun _ _ _ => False) := by exact C8.pass0) (calm : X.calm = true := by rfl)
    (hdb : (x == ("__debug__" : Str)) = false := by decide) : PS X (.Raise (some (.Call (.Name x np) [] [] pos)) none pos') (fun _ _ H => Rz C (wordF x) H E) := by
  obtain ⟨X1, mO, g, fdI, iC, tI, FI, bI⟩ := mk
  exact ⟨fun pins s σ H D I h => (L2N.ps_raise (pos := pos') calm tk (pmk_none (x := x) (np := np) (pos := pos) X1.oex iC tI FI (hr.mono hk) bI h0 hg mO hdb)).run pins s σ H D I (made_word X1 h)⟩
/-- raise X(v): made_fld answers -/
theorem pr_fld {X : Cx} {j : Nat} {x fn : Str} {C : Addr} {E : XK} {e : Expr} {te : TA} {np pos pos' : Pos} (mk : Mks X.prog X.w X.K X.mg X.base 2 x C ["self", fn] (spXF X.K x fn)) (hr : Room j X.A) (hk : 3 ≤ j) (hg : Gl X x) (he : PA X [e] te) (tk : L2N.Takes X (fun cls d _ H => E cls d H) := by exact L2N.takes_of rfl rfl rfl rfl) (h0 : Passes C8.CX0 X (fun _ _ _ => False) := by exact C8.pass0) (calm : X.calm = true := by rfl)
    (hdb : (x == ("__debug__" : Str)) = false := by decide) (hs : starEach [e] X.env = (false, eval e X.env) :: starEach [] X.env := by rfl) (hpl : (backTo pos (starEach [] X.env)).any (·.1) = false := by rfl) : PS X (.Raise (some (.Call (.Name x np) [e] [] pos)) none pos') (fun _ σ H => te σ H fun vs H1 => mkW C (spXF X.K x fn) vs H1 E) := by
  obtain ⟨X1, mO, g, fdI, iC, tI, FI, bI⟩ := mk
  exact L2N.ps_raise (pos := pos') calm tk (pmk_args (x := x) (np := np) (pos := pos) X1.oex iC tI FI (hr.mono hk) bI h0 hg mO he hdb hs hpl)
abbrev s_i_BadLanes : Stmt := inClass t_BadLanes 0
theorem sc_i_BadLanes : FnScope ["self"] ["self"] (C8.fnScope s_i_BadLanes) := C8.fnScope_by (by decide +kernel)
theorem ok_i_BadLanes {f g LE : Addr} {fd fd2 : FuncData} {mc : Value} (F : C8.Fun K "__init__" "BadLanes.__init__" s_i_BadLanes f fd) (G : C8.Fun K "__init__" "LaneError.__init__" sLEI g fd2) (bG : Binds K fd2 ["self"] []) (kG : PySem.W.keepIn K (.ref g) = true)
    (m1 : mg "LaneError" = some (.ref LE)) (r : ClX.CRead K LE mc) (at_ : PySem.W.findCls K (.ref LE) mc "__init__" = some (.val (.ref g))) : FnOk P w K mg base C8.CX0 2 f fd ["self"] (spXI K "BadLanes") := by
  obtain ⟨oc, od, dV, kV, doc, pm, an, cdv, ct, osl, rfl, lk, code⟩ := F.ex
  refine fn_of lk code sc_i_BadLanes (fun vs H Q E z => ?_) (fun A outer s H vs Q E hr z => ?_)
  · obtain ⟨a, C, rfl, _⟩ := z; rfl
  obtain ⟨a, C, rfl, x, ha, q⟩ := z
  refine ⟨_, pss_cons (ps_expr (pe_clsfn (x := "LaneError") (E := fun _ _ _ => False) rfl m1 r at_ (ok_lei G) hr kG bG C8.pass0 (pa_cons (pv 0) pa_nil))) (pss_one (ps_ost (pv 0) pe_str)), ?_⟩
  refine ⟨_, rfl, a, C, rfl, x, ha, fun dx n ne => ?_⟩
  have e1 : upd (upd H dx (exd dx [("word", .str "LaneError")])) a (exo a C (some dx)) dx = some (exd dx [("word", .str "LaneError")]) := by rw [upd_ne ne, upd_same]
  exact ⟨_, rfl, a, C, rfl, x.oex, x.no _ (by decide), .inr ⟨dx, _, upd_same, e1, by decide, q dx n ne⟩⟩
abbrev s_i_BadGoal : Stmt := inClass t_BadGoal 0
theorem sc_i_BadGoal : FnScope ["self", "place"] ["self", "place"] (C8.fnScope s_i_BadGoal) := C8.fnScope_by (by decide +kernel)
theorem ok_i_BadGoal {f g LE : Addr} {fd fd2 : FuncData} {mc : Value} (F : C8.Fun K "__init__" "BadGoal.__init__" s_i_BadGoal f fd) (G : C8.Fun K "__init__" "LaneError.__init__" sLEI g fd2) (bG : Binds K fd2 ["self"] []) (kG : PySem.W.keepIn K (.ref g) = true)
    (m1 : mg "LaneError" = some (.ref LE)) (r : ClX.CRead K LE mc) (at_ : PySem.W.findCls K (.ref LE) mc "__init__" = some (.val (.ref g))) : FnOk P w K mg base C8.CX0 2 f fd ["self", "place"] (spXF K "BadGoal" "place") := by
  obtain ⟨oc, od, dV, kV, doc, pm, an, cdv, ct, osl, rfl, lk, code⟩ := F.ex
  refine fn_of lk code sc_i_BadGoal (fun vs H Q E z => ?_) (fun A outer s H vs Q E hr z => ?_)
  · obtain ⟨a, C, v, rfl, _⟩ := z; rfl
  obtain ⟨a, C, v, rfl, x, ha, q⟩ := z
  refine ⟨_, pss_cons (ps_expr (pe_clsfn (x := "LaneError") (E := fun _ _ _ => False) rfl m1 r at_ (ok_lei G) hr kG bG C8.pass0 (pa_cons (pv 0) pa_nil))) (pss_cons (ps_ost (pv 0) (pv 1)) (pss_one (ps_ost (pv 0) pe_str))), ?_⟩
  refine ⟨_, rfl, a, C, rfl, x, ha, fun dx n ne => ?_⟩
  have e1 : upd (upd H dx (exd dx [("word", .str "LaneError")])) a (exo a C (some dx)) dx = some (exd dx [("word", .str "LaneError")]) := by rw [upd_ne ne, upd_same]
  have e2 : ∀ o, upd (upd (upd H dx (exd dx [("word", .str "LaneError")])) a (exo a C (some dx))) dx o a = some (exo a C (some dx)) := fun o => by rw [upd_ne ne.symm, upd_same]
  refine ⟨_, rfl, _, rfl, a, C, rfl, x.oex, x.no _ (by decide), .inr ⟨dx, _, upd_same, e1, (by show 1 ≤ 900; decide), ?_⟩⟩
  exact ⟨_, rfl, a, C, rfl, x.oex, x.no _ (by decide), .inr ⟨dx, _, e2 _, upd_same, (by show 2 ≤ 900; decide), q dx n ne⟩⟩
abbrev s_i_NotBijective : Stmt := inClass t_NotBijective 0
theorem sc_i_NotBijective : FnScope ["self", "place"] ["self", "place"] (C8.fnScope s_i_NotBijective) := C8.fnScope_by (by decide +kernel)
theorem ok_i_NotBijective {f g LE : Addr} {fd fd2 : FuncData} {mc : Value} (F : C8.Fun K "__init__" "NotBijective.__init__" s_i_NotBijective f fd) (G : C8.Fun K "__init__" "LaneError.__init__" sLEI g fd2) (bG : Binds K fd2 ["self"] []) (kG : PySem.W.keepIn K (.ref g) = true)
    (m1 : mg "LaneError" = some (.ref LE)) (r : ClX.CRead K LE mc) (at_ : PySem.W.findCls K (.ref LE) mc "__init__" = some (.val (.ref g))) : FnOk P w K mg base C8.CX0 2 f fd ["self", "place"] (spXF K "NotBijective" "place") := by
  obtain ⟨oc, od, dV, kV, doc, pm, an, cdv, ct, osl, rfl, lk, code⟩ := F.ex
  refine fn_of lk code sc_i_NotBijective (fun vs H Q E z => ?_) (fun A outer s H vs Q E hr z => ?_)
  · obtain ⟨a, C, v, rfl, _⟩ := z; rfl
  obtain ⟨a, C, v, rfl, x, ha, q⟩ := z
  refine ⟨_, pss_cons (ps_expr (pe_clsfn (x := "LaneError") (E := fun _ _ _ => False) rfl m1 r at_ (ok_lei G) hr kG bG C8.pass0 (pa_cons (pv 0) pa_nil))) (pss_cons (ps_ost (pv 0) (pv 1)) (pss_one (ps_ost (pv 0) pe_str))), ?_⟩
  refine ⟨_, rfl, a, C, rfl, x, ha, fun dx n ne => ?_⟩
  have e1 : upd (upd H dx (exd dx [("word", .str "LaneError")])) a (exo a C (some dx)) dx = some (exd dx [("word", .str "LaneError")]) := by rw [upd_ne ne, upd_same]
  have e2 : ∀ o, upd (upd (upd H dx (exd dx [("word", .str "LaneError")])) a (exo a C (some dx))) dx o a = some (exo a C (some dx)) := fun o => by rw [upd_ne ne.symm, upd_same]
  refine ⟨_, rfl, _, rfl, a, C, rfl, x.oex, x.no _ (by decide), .inr ⟨dx, _, upd_same, e1, (by show 1 ≤ 900; decide), ?_⟩⟩
  exact ⟨_, rfl, a, C, rfl, x.oex, x.no _ (by decide), .inr ⟨dx, _, e2 _, upd_same, (by show 2 ≤ 900; decide), q dx n ne⟩⟩
abbrev s_i_TooWide : Stmt := inClass t_TooWide 0
theorem sc_i_TooWide : FnScope ["self", "most"] ["self", "most"] (C8.fnScope s_i_TooWide) := C8.fnScope_by (by decide +kernel)
theorem ok_i_TooWide {f g LE : Addr} {fd fd2 : FuncData} {mc : Value} (F : C8.Fun K "__init__" "TooWide.__init__" s_i_TooWide f fd) (G : C8.Fun K "__init__" "LaneError.__init__" sLEI g fd2) (bG : Binds K fd2 ["self"] []) (kG : PySem.W.keepIn K (.ref g) = true)
    (m1 : mg "LaneError" = some (.ref LE)) (r : ClX.CRead K LE mc) (at_ : PySem.W.findCls K (.ref LE) mc "__init__" = some (.val (.ref g))) : FnOk P w K mg base C8.CX0 2 f fd ["self", "most"] (spXF K "TooWide" "most") := by
  obtain ⟨oc, od, dV, kV, doc, pm, an, cdv, ct, osl, rfl, lk, code⟩ := F.ex
  refine fn_of lk code sc_i_TooWide (fun vs H Q E z => ?_) (fun A outer s H vs Q E hr z => ?_)
  · obtain ⟨a, C, v, rfl, _⟩ := z; rfl
  obtain ⟨a, C, v, rfl, x, ha, q⟩ := z
  refine ⟨_, pss_cons (ps_expr (pe_clsfn (x := "LaneError") (E := fun _ _ _ => False) rfl m1 r at_ (ok_lei G) hr kG bG C8.pass0 (pa_cons (pv 0) pa_nil))) (pss_cons (ps_ost (pv 0) (pv 1)) (pss_one (ps_ost (pv 0) pe_str))), ?_⟩
  refine ⟨_, rfl, a, C, rfl, x, ha, fun dx n ne => ?_⟩
  have e1 : upd (upd H dx (exd dx [("word", .str "LaneError")])) a (exo a C (some dx)) dx = some (exd dx [("word", .str "LaneError")]) := by rw [upd_ne ne, upd_same]
  have e2 : ∀ o, upd (upd (upd H dx (exd dx [("word", .str "LaneError")])) a (exo a C (some dx))) dx o a = some (exo a C (some dx)) := fun o => by rw [upd_ne ne.symm, upd_same]
  refine ⟨_, rfl, _, rfl, a, C, rfl, x.oex, x.no _ (by decide), .inr ⟨dx, _, upd_same, e1, (by show 1 ≤ 900; decide), ?_⟩⟩
  exact ⟨_, rfl, a, C, rfl, x.oex, x.no _ (by decide), .inr ⟨dx, _, e2 _, upd_same, (by show 2 ≤ 900; decide), q dx n ne⟩⟩
abbrev s_i_BadText : Stmt := inClass t_BadText 0
theorem sc_i_BadText : FnScope ["self", "at"] ["self", "at"] (C8.fnScope s_i_BadText) := C8.fnScope_by (by decide +kernel)
theorem ok_i_BadText {f g LE : Addr} {fd fd2 : FuncData} {mc : Value} (F : C8.Fun K "__init__" "BadText.__init__" s_i_BadText f fd) (G : C8.Fun K "__init__" "LaneError.__init__" sLEI g fd2) (bG : Binds K fd2 ["self"] []) (kG : PySem.W.keepIn K (.ref g) = true)
    (m1 : mg "LaneError" = some (.ref LE)) (r : ClX.CRead K LE mc) (at_ : PySem.W.findCls K (.ref LE) mc "__init__" = some (.val (.ref g))) : FnOk P w K mg base C8.CX0 2 f fd ["self", "at"] (spXF K "BadText" "at") := by
  obtain ⟨oc, od, dV, kV, doc, pm, an, cdv, ct, osl, rfl, lk, code⟩ := F.ex
  refine fn_of lk code sc_i_BadText (fun vs H Q E z => ?_) (fun A outer s H vs Q E hr z => ?_)
  · obtain ⟨a, C, v, rfl, _⟩ := z; rfl
  obtain ⟨a, C, v, rfl, x, ha, q⟩ := z
  refine ⟨_, pss_cons (ps_expr (pe_clsfn (x := "LaneError") (E := fun _ _ _ => False) rfl m1 r at_ (ok_lei G) hr kG bG C8.pass0 (pa_cons (pv 0) pa_nil))) (pss_cons (ps_ost (pv 0) (pv 1)) (pss_one (ps_ost (pv 0) pe_str))), ?_⟩
  refine ⟨_, rfl, a, C, rfl, x, ha, fun dx n ne => ?_⟩
  have e1 : upd (upd H dx (exd dx [("word", .str "LaneError")])) a (exo a C (some dx)) dx = some (exd dx [("word", .str "LaneError")]) := by rw [upd_ne ne, upd_same]
  have e2 : ∀ o, upd (upd (upd H dx (exd dx [("word", .str "LaneError")])) a (exo a C (some dx))) dx o a = some (exo a C (some dx)) := fun o => by rw [upd_ne ne.symm, upd_same]
  refine ⟨_, rfl, _, rfl, a, C, rfl, x.oex, x.no _ (by decide), .inr ⟨dx, _, upd_same, e1, (by show 1 ≤ 900; decide), ?_⟩⟩
  exact ⟨_, rfl, a, C, rfl, x.oex, x.no _ (by decide), .inr ⟨dx, _, e2 _, upd_same, (by show 2 ≤ 900; decide), q dx n ne⟩⟩
end
end L2.FK
/-! read_part of any text; read_parts, which may raise. -/
namespace L2.FK
open PySem PySem.Spec PyProof.Rows L2.FL FlT LamX TL
section
variable {P : Program} {w : World} {K : PySem.W.Frag} {mg : Str → Option Value} {base : Heap}
def spRPx : Sp := fun vs H Q _ => ∃ p : Str, vs = [.str p] ∧ Asc p ∧ p.length ≤ 300000 ∧ (∀ d row, RdP p d row → ∀ r H', Same H H' → PrtF H H' r (d, row) → Q r H') ∧ ((∀ d row, ¬ RdP p d row) → ∀ H', Same H H' → Q .non H')
theorem ok_read_partx (h : Has K mg "read_part" t_read_part ["part"]) (B : Bl mg) (MW : ∃ t, mg "MOST_WRITTEN" = some (.int M30 t)) (cI : C8.Cal P w K mg base 2 "integer_of" spInt []) (cP : C8.Cal P w K mg base 2 "place_of" spPlo []) :
    C8.Cal P w K mg base 3 "read_part" spRPx [] := by
  refine cal_of h sc_rp (fun vs H Q E z => ?_) (fun f cdv A outer s H vs Q E hr z => ?_)
  · obtain ⟨p, rfl, _⟩ := z; rfl
  obtain ⟨p, rfl, pa, plen, q1, q2⟩ := z
  have nd := sc_rp.nd
  have hu65 : (A.deeper (envOfC "read_part" (C8.fnScope t_read_part) s.heap.objs.size f cdv)).units + 65 < cLine := by have := hr.un; omega
  obtain ⟨tw, hMW⟩ := MW
  refine ⟨_, (pss_cons (ps_set (i := 1) nd rfl (.inl rfl) (pe_split (pv 0) pe_str))
    (C8.pss_cut (ps_set (i := 2) nd rfl (.inl rfl) (C8.pe_c cI hr (by decide) rfl (pa_cons (pe_ix (x_list K) (pv 1) pe_int (fun _ _ => rfl)) (pa_cons (pe_glob (v := .int M30) rfl hMW ⟨_, rfl⟩) pa_nil))))
    (pss_cons (ps_setLc (i := 3) (own := [("word", 4)]) (g := (gName 4)) (tt := tYes) rfl nd rfl rfl (sw_true rfl rfl rfl (by decide +kernel)) (n_list K (pe_slice sl_list (pv 1) (po_some pe_int) po_none)) (blkOk_by (own := [("word", 4)]) (N := nRP) (sc := C8.fnScope t_read_part) (by decide +kernel)) (fun _ _ _ _ _ => (pg_name (i := 4) nd rfl (.inl rfl))) (fun _ _ _ _ _ => pts_nil) (fun _ _ _ _ _ => (C8.pe_c cP hr (by decide) rfl (pa_cons (pv 4) (pa_cons (pe_glob (v := .int M30) rfl hMW ⟨_, rfl⟩) pa_nil)))))
    (pss_cons (ps_if (PW.pt (pw_or (pt_cmpR op_isN (pv 2) pe_non (nomark _)) (pw_or1 (pt_cmpR (op_inD hu65) pe_non (pv 3) rfl)))) (pss_one (ps_ret pe_non)) pss_nil)
    (pss_one (ps_ret (pe_tup (pa_cons (pv 2) (pa_cons (pv 3) pa_nil))))))))), ?_⟩
  have fz : ∀ x : Nat, x ≤ 400000 → x ≤ sizeLine := fun x h => Nat.le_trans h (by decide)
  have mlt : M30 < 10 ^ 40 := by decide +kernel
  have m30 : M30 = 10 ^ 30 - 1 := by decide +kernel
  obtain ⟨w0, rest, ew⟩ : ∃ w0 rest, Txt.split p (Str.ofString " ") = w0 :: rest := by
    cases e : Txt.split p (Str.ofString " ") with
    | nil => exact absurd e (words_back p).1
    | cons a b => exact ⟨a, b, rfl⟩
  have wsa := words_asc pa
  have wsl := split_len (t := p)
  rw [ew] at wsa wsl
  rw [List.length_cons] at wsl
  have rd : ∀ d row, RdP p d row → w0 = numS d ∧ rest = row.map plS := fun d row hr => by
    have z := (rdp_iff hr.2.1 hr.2.2).mp hr
    rw [ew] at z
    exact ⟨(List.cons.inj z).1, (List.cons.inj z).2⟩
  refine ⟨_, rfl, ⟨_, rfl⟩, p, _, rfl, rfl, (by decide +kernel), fz _ (by omega), fun lw hlw => ?_⟩
  rw [ew]
  have s4 := same_new hlw (.lst ((w0 :: rest).map V.str))
  have g4 : upd H lw (.lst ((w0 :: rest).map V.str)) lw = some (.lst ((w0 :: rest).map V.str)) := upd_same
  generalize upd H lw (.lst ((w0 :: rest).map V.str)) = H4 at s4 g4
  obtain ⟨a0, l0⟩ := wsa w0 List.mem_cons_self
  refine ⟨fun σ H' => H' = H4 ∧ ∃ u x3 x4, ((∃ d : Int, w0 = numS d ∧ d.natAbs ≤ 10 ^ 30 - 1 ∧ u = .int d) ∨ (u = .non ∧ ∀ d : Int, w0 = numS d → ¬ d.natAbs ≤ 10 ^ 30 - 1)) ∧ σ = [some (.str p), some (.ref lw), some u, x3, x4], ?_, ?_⟩
  · exact ⟨_, rfl, lw, _, 0, .str w0, rfl, rfl, SqL.of g4, atI_nat (j := 0) rfl, w0, M30, rfl, a0, mlt, fz _ (by omega), fun d ed hd => ⟨rfl, _, _, _, .inl ⟨d, ed, by rw [← m30]; exact hd, rfl⟩, rfl⟩, fun nod => ⟨rfl, _, _, _, .inr ⟨rfl, fun d e => by rw [← m30]; exact nod d e⟩, rfl⟩⟩
  rintro σ H' ⟨rfl, u, x3, x4, hu, rfl⟩
  refine ⟨_, rfl, _, rfl, lw, _, rfl, SqL.of g4, fun ls hls => ?_⟩
  have ec : cutV ((w0 :: rest).map V.str) (some 1) none = rest.map V.str := cutV_tail _ _
  rw [ec]
  have s5 := same_new hls (.lst (rest.map V.str))
  have g5 : upd H' ls (.lst (rest.map V.str)) ls = some (.lst (rest.map V.str)) := upd_same
  generalize upd H' ls (.lst (rest.map V.str)) = H5 at s5 g5
  refine ⟨ls, rfl, ⟨_, SqL.of g5⟩, fun D2 hD2 => ?_⟩
  refine lc_it (walk_list (K := K) (a := ls) (xs := rest.map V.str)) (fun j H' => Same H5 (del D2 H') ∧ ∃ us, H' D2 = some (.lst us) ∧ Paired (fun v z => PlO (del D2 H') z v) us (rest.take j)) ?_ ?_ ?_ ?_
  · exact ⟨by rw [del_upd]; exact same_del (Same.refl _) hD2, [], upd_same, by rw [List.take_zero]; exact .nil⟩
  · rintro j H' _ ⟨s', _⟩; exact SqL.of (del_same _ _ (s' _ _ g5))
  · rintro j x H6 H7 hj ⟨s6, us, hu', hpo⟩ ⟨rfl, hx⟩
    rw [List.length_map] at hj
    have hrj : rest[j]? = some rest[j] := List.getElem?_eq_getElem hj
    rw [List.getElem?_map, hrj] at hx
    have hx := (Option.some.inj hx).symm
    subst hx
    obtain ⟨za, zl⟩ := wsa rest[j] (List.mem_cons_of_mem _ (List.getElem_mem hj))
    generalize rest[j] = z at hrj za zl
    have ul := paired_len hpo
    rw [List.length_take] at ul
    have put : ∀ v H8, Same H7 H8 → PlO H8 z v → ∃ acc, H8 D2 = some (.lst acc) ∧ acc.length < sizeLine ∧ Same H5 (del D2 (upd H8 D2 (.lst (acc ++ [v])))) ∧ ∃ us, upd H8 D2 (.lst (acc ++ [v])) D2 = some (.lst us) ∧ Paired (fun v' z' => PlO (del D2 (upd H8 D2 (.lst (acc ++ [v])))) z' v') us (rest.take (j + 1)) := fun v H8 s8 hv => by
      refine ⟨us, s8 _ _ hu', Nat.lt_of_le_of_lt (show us.length ≤ 400000 by omega) (by decide), by rw [del_upd]; exact s6.trans (same_dels s8), _, upd_same, ?_⟩
      rw [del_upd, take_snoc hrj]
      refine paired_app (paired_mono hpo fun _ _ y => y.mono (same_dels s8)) (.cons ?_ .nil)
      rcases hv with ⟨i1, j1, e, b1, b2, hp1⟩ | hv
      · obtain ⟨t', et', ht'⟩ := hp1
        exact .inl ⟨i1, j1, e, b1, b2, t', et', by rw [del_ne (fun y => by rw [y, s8 _ _ hu'] at ht'; cases ht')]; exact ht'⟩
      · exact .inr hv
    exact ⟨rfl, _, rfl, z, M30, rfl, za, mlt, fz _ (by omega), fun i1 j1 e b1 b2 r H8 s8 hr8 => put r H8 s8 (.inl ⟨i1, j1, e, by rw [← m30]; exact b1, by rw [← m30]; exact b2, hr8⟩), fun no H8 s8 => put .non H8 s8 (.inr ⟨rfl, fun i j e => by rw [← m30]; exact no i j e⟩)⟩
  rintro H6 ⟨s6, us, hu', hpo⟩
  rw [List.length_map, List.take_length] at hpo
  have s56 : Same H5 H6 := s6.trans del_same
  have s46 : Same H H6 := s4.trans (s5.trans s56)
  have hpo6 : Paired (fun v z => PlO H6 z v) us rest := paired_mono hpo fun _ _ y => y.mono del_same
  have fD2 : H D2 = none := (s4.trans s5).free hD2
  rcases hu with ⟨d, ed, hd, rfl⟩ | ⟨rfl, nod⟩
  · refine ⟨_, rfl, rfl, _, rfl, iteF ?_⟩
    obtain ⟨dd, hdp, hpn, hany⟩ := plo_data (K := K) hpo6
    refine ⟨_, rfl, .none, dd, .non, .lst (SqL.of hu') hdp, rfl, pon_shp hpn, _, rfl, ?_⟩
    rw [hany]
    rcases plo_all hpo6 with ⟨row, h1, h2, h3⟩ | ⟨h1, h2⟩
    · have nn : V.non ∉ us := fun m => by
        have : ∀ {us : List V} {row : List Pl}, Paired (PlAt H6) us row → V.non ∉ us := fun {us row} y => by
          induction y with
          | nil => exact fun m => nomatch m
          | cons a _ ih =>
            intro m
            rcases List.mem_cons.mp m with m | m
            · obtain ⟨t', et', _⟩ := a
              rw [et'] at m; cases m
            · exact ih m
        exact this h1 m
      rw [decide_eq_false nn]
      refine iteF ⟨_, rfl, _, rfl, (by show 2 ≤ sizeLine; decide), fun t ht => ?_⟩
      exact q1 d row ((rdp_iff hd h3).mpr (by rw [ew, ed, h2])) _ _ (s46.trans (same_new ht _)) ⟨t, D2, rfl, upd_same, fD2, D2, us, rfl, same_new ht _ _ _ hu', paired_mono h1 fun _ _ y => y.mono (same_new ht _)⟩
    · rw [decide_eq_true h1]
      exact iteT (q2 (fun d' row hr => h2 row hr.2.2 (rd d' row hr).2) _ s46)
  · refine ⟨_, rfl, rfl, _, rfl, iteT (iteT (q2 (fun d' row hr => nod d' (rd d' row hr).1 hr.2.1) _ s46))⟩
/-! ### read_parts -/
/-- the first part that does not read -/
def FstNo (ps : List Str) (n : Nat) : Prop := n < ps.length ∧ (∀ i p, i < n → ps[i]? = some p → ∃ d row, RdP p d row) ∧ ∀ p d row, ps[n]? = some p → ¬ RdP p d row
/-- all parts read so -/
def AllRd (ps : List Str) (xs : List (Int × List Pl)) : Prop := xs.length = ps.length ∧ ∀ (i : Nat) p x, ps[i]? = some p → xs[i]? = some x → RdP p x.1 x.2
theorem fst_or (ps : List Str) : (∃ n, FstNo ps n) ∨ ∃ xs, AllRd ps xs := by
  classical
  induction ps with
  | nil => exact .inr ⟨[], rfl, fun i p x h => by cases i <;> cases h⟩
  | cons p ps ih =>
    by_cases c : ∃ d row, RdP p d row
    · rcases ih with ⟨n, h1, h2, h3⟩ | ⟨xs, h1, h2⟩
      · refine .inl ⟨n + 1, by rw [List.length_cons]; omega, fun i q hi hq => ?_, fun q d row hq => h3 q d row hq⟩
        cases i with
        | zero => cases hq; exact c
        | succ i => exact h2 i q (by omega) hq
      · obtain ⟨d, row, hr⟩ := c
        refine .inr ⟨(d, row) :: xs, by rw [List.length_cons, List.length_cons, h1], fun i q x hq hx => ?_⟩
        cases i with
        | zero => cases hq; cases hx; exact hr
        | succ i => exact h2 i q x hq hx
    · exact .inl ⟨0, by rw [List.length_cons]; omega, fun i q hi => absurd hi (by omega), fun q d row hq hr => by cases hq; exact c ⟨d, row, hr⟩⟩
theorem FstNo.uniq {ps : List Str} {n m : Nat} (h : FstNo ps n) (h' : FstNo ps m) : n = m := by
  obtain ⟨a1, a2, a3⟩ := h
  obtain ⟨b1, b2, b3⟩ := h'
  have t1 : ¬ n < m := fun z => by
    obtain ⟨d, row, hr⟩ := b2 n _ z (List.getElem?_eq_getElem a1)
    exact a3 _ _ _ (List.getElem?_eq_getElem a1) hr
  have t2 : ¬ m < n := fun z => by
    obtain ⟨d, row, hr⟩ := a2 m _ z (List.getElem?_eq_getElem b1)
    exact b3 _ _ _ (List.getElem?_eq_getElem b1) hr
  omega
def spRPsx (BT : Addr) : Sp := fun vs H Q E => ∃ t : Str, vs = [.str t] ∧ Asc t ∧ t.length ≤ 300000 ∧ (∀ n, FstNo (Txt.split t (Str.ofString " | ")) n → Rz BT (fldF "BadText" "at" (.int (n : Nat))) H E) ∧
  ∀ xs, AllRd (Txt.split t (Str.ofString " | ")) xs → ∀ r H', Same H H' → PrtsAt H' r xs → Q r H'
theorem may_read_parts {BT : Addr} (h : Has K mg "read_parts" t_read_parts ["text"]) (B : Bl mg) (cR : C8.Cal P w K mg base 3 "read_part" spRPx []) (mk : Mks P w K mg base 2 "BadText" BT ["self", "at"] (spXF K "BadText" "at")) : May P w K mg base 4 "read_parts" ["text"] (spRPsx BT) := by
  refine may_of h sc_rps (fun vs H Q E z => ?_) (fun f cdv A outer s H vs Q E hr z => ?_)
  · obtain ⟨t, rfl, _⟩ := z; rfl
  obtain ⟨t, rfl, ha, hz, q1, q2⟩ := z
  have nd := sc_rps.nd
  refine ⟨_, (pss_cons (ps_set (i := 1) nd rfl (.inl rfl) (pe_lst pa_nil))
    (pss_cons (ps_for PassesOwn.leaving rfl (n_enum K rfl B.enumerate (pa_cons (pe_split (pv 0) pe_str) pa_nil)) (g_tup K (hp := (pgs_cons (pg_name (i := 2) nd rfl (.inl rfl)) (pgs_cons (pg_name (i := 3) nd rfl (.inl rfl)) pgs_nil))))
    (pss_cons (ps_set (i := 4) nd rfl (.inl rfl) (C8.pe_c cR hr (by decide) rfl (pa_cons (pv 3) pa_nil)))
    (pss_cons (ps_if (pt_cmpR op_isN (pv 4) pe_non (nomark _)) (pss_one (pr_fld mk hr (by decide) rfl (pa_cons (pv 2) pa_nil))) pss_nil)
    (pss_one (ps_expr (pe_bm PySem.F.plainAttrs_list PySem.F.slot_list_append PySem.F.type_list_append mt_append (pv 1) (pa_cons (pv 4) pa_nil)))))))
    (pss_one (ps_ret (pv 1))))), ?_⟩
  have fz : ∀ x : Nat, x ≤ 400000 → x ≤ sizeLine := fun x h => Nat.le_trans h (by decide)
  generalize eps : Txt.split t (Str.ofString " | ") = ps at q1 q2
  have hps := bar_parts t ha
  have hpl := bar_count t
  rw [eps] at hps hpl
  refine ⟨by show 0 ≤ sizeLine; decide, fun L hL => ?_⟩
  refine ⟨_, rfl, ⟨_, rfl⟩, t, _, rfl, rfl, (by decide +kernel), fz _ (by omega), fun l hl1 => ?_⟩
  rw [eps]
  have nLl : L ≠ l := ne_of_none upd_same hl1
  refine ⟨l, _, rfl, SqL.of upd_same, ?_⟩
  have sL : Same H (del L (upd (upd H L (.lst [])) l (.lst (ps.map V.str)))) := by
    rw [del_upd_ne nLl.symm, del_upd]
    exact (same_del (Same.refl _) hL).trans (same_new (none_del hl1) _ |> fun z => by rw [del_upd] at z; exact z)
  have g0 : (upd (upd H L (.lst [])) l (.lst (ps.map V.str))) L = some (.lst []) := by rw [upd_ne nLl]; exact upd_same
  have gl : del L (upd (upd H L (.lst [])) l (.lst (ps.map V.str))) l = some (.lst (ps.map V.str)) := by rw [del_ne nLl.symm]; exact upd_same
  generalize upd (upd H L (.lst [])) l (.lst (ps.map V.str)) = H0 at sL g0 gl
  refine for_it (walk_enum (K := K) (a := l) (xs := ps.map V.str)) (fun i σ H' => Same (del L H0) (del L H') ∧ (∃ us xs, H' L = some (.lst us) ∧ Paired (PrtAt (del L H')) us xs ∧ us.length = i ∧ xs.length = i ∧ ∀ (j : Nat) p x, ps[j]? = some p → xs[j]? = some x → RdP p x.1 x.2) ∧ ∃ x2 x3 x4, σ = [some (.str t), some (.ref L), x2, x3, x4]) ?_ ?_ ?_ ?_
  · exact ⟨Same.refl _, ⟨[], [], g0, .nil, rfl, rfl, fun j p x _ h => by cases j <;> cases h⟩, _, _, _, rfl⟩
  · rintro i H' σ _ ⟨s', _⟩; exact SqL.of (of_del (s' _ _ gl)).1
  · rintro i x σ H2 H3 hi ⟨s', ⟨us, xs, hu, hp, ul, xl, hrd⟩, x2, x3, x4, rfl⟩ ⟨Tt, y1, y2, rfl, hT, rfl, e1, e2⟩
    cases e1
    rw [List.length_map] at hi
    have hpi : ps[i]? = some ps[i] := List.getElem?_eq_getElem hi
    obtain ⟨pa, plen⟩ := hps ps[i] (List.getElem_mem hi)
    have ey : y2 = .str ps[i] := by
      dsimp only at e2
      rw [List.getElem?_map, hpi] at e2
      exact (Option.some.inj e2).symm
    subst ey
    generalize ps[i] = p at hpi pa plen hT
    have nT : Tt ≠ L := (ne_of_none hu hT).symm
    refine ⟨Tt, _, rfl, .inl (.inl upd_same), rfl, _, _, rfl, _, _, rfl, rfl, ?_⟩
    have hu4 : (upd H2 Tt (.tup [.int (i : Nat), .str p])) L = some (.lst us) := by rw [upd_ne nT.symm]; exact hu
    have s02 : Same H (upd H2 Tt (.tup [.int (i : Nat), .str p])) := sL.trans (s'.trans (del_same.trans (same_new hT _)))
    refine ⟨_, rfl, p, rfl, pa, by omega, fun d row hrp r H5 s5 hr5 => ?_, fun no H5 s5 => ?_⟩
    · obtain ⟨tt, c, rfl, ht, fc, hc⟩ := hr5
      have hu5 : H5 L = some (.lst us) := s5 _ _ hu4
      have nc : c ≠ L := fun z => by rw [z, hu4] at fc; cases fc
      have nt : tt ≠ L := fun z => by rw [z, hu5] at ht; cases ht
      have s25 : Same (del L H2) (del L H5) := same_dels ((same_new hT _).trans s5)
      refine ⟨_, rfl, rfl, _, rfl, iteF ?_⟩
      refine ⟨_, rfl, .inl ⟨rfl, _, SqL.of hu5⟩, _, rfl, L, us, _, rfl, rfl, hu5, Nat.lt_of_le_of_lt (show us.length ≤ 400000 by omega) (by decide), ?_, ⟨us ++ [.ref tt], xs ++ [(d, row)], upd_same, ?_, ?_, ?_, fun j p' x hj hx => ?_⟩, _, _, _, rfl⟩
      · rw [del_upd]; exact s'.trans s25
      · rw [del_upd]
        refine paired_app (paired_mono hp fun _ _ ⟨t, c, e, ht, hr⟩ => ⟨t, c, e, s25 _ _ ht, hr.mono s25⟩) (.cons ⟨tt, _, rfl, by rw [del_ne nt]; exact ht, ?_⟩ .nil)
        exact RowAt.delN hu5 (fun _ e => nomatch e) nc hc
      · rw [List.length_append, ul]; rfl
      · rw [List.length_append, xl]; rfl
      · by_cases c : j = i
        · subst c
          rw [hpi] at hj; cases hj
          rw [List.getElem?_append_right (by omega), xl, Nat.sub_self] at hx
          cases hx
          exact hrp
        · have : j < xs.length + 1 := by
            have z := (List.getElem?_eq_some_iff.mp hx).1
            rw [List.length_append] at z
            exact z
          rw [List.getElem?_append_left (by omega)] at hx
          exact hrd j p' x hj hx
    · refine ⟨_, rfl, rfl, _, rfl, iteT ⟨_, rfl, made_fld mk.1 ?_⟩⟩
      exact (q1 i ⟨hi, fun j p' hj hp' => by
        have hj' : j < xs.length := by omega
        exact ⟨_, _, hrd j p' xs[j] hp' (List.getElem?_eq_getElem hj')⟩, fun p' d row hp' hr' => by rw [hpi] at hp'; cases hp'; exact no d row hr'⟩).same (s02.trans s5)
  · rintro σ H2 ⟨s', ⟨us, xs, hu, hp, ul, xl, hrd⟩, x2, x3, x4, rfl⟩
    rw [List.length_map] at ul xl
    exact ⟨_, rfl, q2 xs ⟨xl, hrd⟩ _ _ (sL.trans (s'.trans del_same)) ⟨L, us, rfl, hu, paired_mono hp fun _ _ ⟨t, c, e, ht, hr⟩ => ⟨t, c, e, (of_del ht).1, hr.mono del_same⟩⟩⟩
end
end L2.FK
/-! _law_told: what it makes of the lambda's reading. -/
namespace L2.FK
open PySem PySem.Spec PyProof.Rows L2.FL FlT LamX
/-- the exception is one of the three, tells the word and the field -/
def Caught (K : PySem.W.Frag) (cs : List Value) (H : Hp) (cl : Value) (dd : Option Addr) (x : Str) (v : V) : Prop := PySem.W.exmAny K cl cs = some true ∧ TellsAt K H cl dd x v
def TTold (K : PySem.W.Frag) (cs : List Value) : (XK → Hp → VK → Prop) → Hp → VK → Prop := fun tl H Q =>
  tl (fun cl dd H' => ∃ x v, Caught K cs H' cl dd x v ∧ ∀ b H2, Same H' H2 → H2 b = none → Q (.ref b) (upd H2 b (.tup [.str x, v]))) H
    (fun v H1 => [V.str "told", v].length ≤ sizeLine ∧ ∀ b, H1 b = none → Q (.ref b) (upd H1 b (.tup [.str "told", v])))
theorem takesF {X : Cx} : L2N.Takes X (fun _ _ _ _ => False) := fun _ _ x => by
  obtain ⟨_, _, _, _, _, _, _, _, _, _, _, _, _, _, _, _, z⟩ := x
  exact z.elim
def nTold : List Str := ["_law_ask", "_law_e"]
theorem sc_to : FnScope nTold ["_law_ask"] (C8.fnScope sTold) := C8.fnScope_by (by decide +kernel)
theorem TellsAt.mono {K : PySem.W.Frag} {H H1 : Hp} {cl : Value} {dd : Option Addr} {x : Str} {v : V} (t : TellsAt K H cl dd x v) (s : Same H H1) : TellsAt K H1 cl dd x v := by
  obtain ⟨C, d, fs, a, b, c, e, f, g⟩ := t
  exact ⟨C, d, fs, a, b, c, e, s _ _ f, g⟩
section
variable {X : Cx} {g : Addr} {cdg : Value} {q : Str} {j : Nat} {LE MI NL : Addr}
theorem told_gives (hF : Has X.K X.mg "_law_field" sField ["_law_e"]) (m1 : X.mg "LaneError" = some (.ref LE)) (m2 : X.mg "Missing" = some (.ref MI)) (m3 : X.mg "NothingLeft" = some (.ref NL)) (hj : 1 ≤ j) :
    GivesN X nTold "_law_told" (C8.fnScope sTold) g cdg (C8.fnBody sTold) "_law_ask" q j (TTold X.K [.ref LE, .ref MI, .ref NL]) := by
  intro f c' s H Q tl room act hc wish
  obtain ⟨ff, fdf, F, mF, kF, bF⟩ := ok_field (P := X.prog) (w := X.w) (base := X.base) hF
  refine ⟨_, pss_one (ps_try_tup (X := (cxOf C8.CX0 X.prog X.w X.K X.mg X.base nTold "_law_told" (C8.fnScope sTold) g cdg X.A X.stack s H C8.E0).nox) (i := 1) (c1 := .ref LE) (c2 := .ref MI) (c3 := .ref NL)
      (tb := fun W D σ H => ∃ Ech : XK, (∀ cl dd σ' H', Ech cl dd H' → W cl dd σ' H') ∧ σ[0]? = some (some (.ref f)) ∧ H c' = some (CodeO c' q) ∧ tl Ech H fun v H1 => [V.str "told", v].length ≤ sizeLine ∧ ∀ b, H1 b = none → D.rt (.ref b) (upd H1 b (.tup [.str "told", v])))
      (ts := fun a cl dd D σ H => σ[1]? = some (some (.ref a)) ∧ ∃ x v, TellsAt X.K H cl dd x v ∧ ∀ b H2, Same H H2 → H2 b = none → D.rt (.ref b) (upd H2 b (.tup [.str x, v])))
      rfl rfl sc_to.nd rfl rfl ⟨rfl, by decide, .inl m1⟩ ⟨rfl, by decide, .inl m2⟩ ⟨rfl, by decide, .inl m3⟩ takesF (fun W pn xe tk _ => ?_) (fun a oe cl dd pn hz hd => ?_)), ?_⟩
  · refine ⟨fun pins s' σ H' D I ⟨Ech, hW, h1, h2, h3⟩ => ?_⟩
    refine (pss_one (ps_ret (pe_tup (pa_cons pe_str (pa_cons (act W pn xe Ech _ _ tk hW) pa_nil))))).run pins s' σ H' D I ?_
    exact ⟨h1, h2, h3⟩
  · refine ⟨fun pins s' σ H' D I ⟨sl, x, v, tell, k⟩ => ?_⟩
    obtain ⟨vs, data⟩ := hd
    have r1 : L2H.RoomH 1 ((cxOf C8.CX0 X.prog X.w X.K X.mg X.base nTold "_law_told" (C8.fnScope sTold) g cdg X.A X.stack s H C8.E0).nox.suite a ((a, oe) :: pn)).A := ⟨(room.mono hj).dp, (room.mono hj).un⟩
    refine (pss_one (ps_ret (X := (cxOf C8.CX0 X.prog X.w X.K X.mg X.base nTold "_law_told" (C8.fnScope sTold) g cdg X.A X.stack s H C8.E0).nox.suite a ((a, oe) :: pn)) (pe_tup (pa_cons (pe_xp (n := "word") (p := (a, oe)) List.mem_cons_self ⟨vs, data⟩ (pv 1))
      (pa_cons (pe_callP (x := "_law_field") (X := (cxOf C8.CX0 X.prog X.w X.K X.mg X.base nTold "_law_told" (C8.fnScope sTold) g cdg X.A X.stack s H C8.E0).nox.suite a ((a, oe) :: pn)) (p := (a, oe)) (E := fun _ _ _ _ => False) F r1 ⟨rfl, vs, data, hz.2.2 vs data⟩ List.mem_cons_self rfl mF kF bF (fun _ _ _ _ _ _ _ z => z.elim) (pa_cons (pv 1) pa_nil)) pa_nil))))).run pins s' σ H' D I ?_
    have tell' : TellsAt X.K H' oe.cls oe.dict x v := by rw [hz.1, hz.2.1]; exact tell
    obtain ⟨C, d, fs, ec, ed, xf, no, hd, hw, _⟩ := id tell'
    exact ⟨_, sl, rfl, C, d, fs, _, ec, ed, xf, no _ (by decide), hd, hw, _, sl, rfl, x, v, tell', fun H2 s2 => ⟨(by show 2 ≤ sizeLine; decide), fun b hb => k b H2 s2 hb⟩⟩
  · refine ⟨_, fun cl dd σ' H' e => ?_, rfl, hc, wish⟩
    obtain ⟨x, v, ⟨e1, e2⟩, e3⟩ := e
    refine ⟨true, e1, fun _ hl a na => ⟨?_, x, v, e2, e3⟩, fun z => Bool.noConfusion z⟩
    rw [List.getElem?_set_self (by rw [hl]; show 1 < 2; decide)]
end
end L2.FK
/-! Written by tools/gen_c.py: the rules of FlTry, FlHot, FlAsk for exceptions whose context may be anything (raise .. from None in an except suite sets it). -/
namespace FlC
open PySem PySem.Spec PyProof.Rows L2 L2H LamX FlT
/-- p's object is the exception that is handled -/
def HotW (A : Around) (p : Addr × Obj) : Prop := A.handled = some (.ref p.1) ∧ ∃ vs : Array Value, p.2.data = .fields vs
theorem sky_imp {B h : Heap} {l : List Env} {a L : Addr} {Z Z' : Obj → Prop} (z : ∀ o, Z o → Z' o) (x : L2.Sky B l a Z L h) : L2.Sky B l a Z' L h := by
  rcases x with ⟨x1, x2, x3, oe, vs, y1, y2, y3, y4⟩ | x | x
  · exact .inl ⟨x1, x2, x3, oe, vs, y1, z _ y2, y3, y4⟩
  · exact .inr (.inl (flyingZ_imp z x))
  · refine .inr (.inr ?_)
    obtain ⟨x1, x2, x3, x4⟩ := x
    exact ⟨x1, x2, x3, by first | exact tracedZ_imp z x4 | (obtain ⟨oe, vs, T, oT, ts, he, hz, r⟩ := x4; exact ⟨oe, vs, T, oT, ts, he, z _ hz, r⟩)⟩
/-- what takes any exception takes those whose context is None -/
theorem takes_n {X : Cx} {W : WX} (t : L2.Takes X W) : L2N.Takes X W := fun u s' ⟨a, B, sI, pins, σ, H, cls, d, e, I, nb, up, sky, na, os, ag, w⟩ =>
  t u s' ⟨a, B, sI, pins, σ, H, cls, d, e, I, nb, up, sky_imp (fun _ z => z.zc) sky, na, os, ag, w⟩
/-- a promise over exceptions whose context is None, told over any -/
theorem fn_wide {P : Program} {w : World} {K : PySem.W.Frag} {mg : Str → Option Value} {base : Heap} {k : Nat} {f : Addr} {fd : FuncData} {ps : List Str} {sp : Sp} (F : FnOk P w K mg base (L2N.CX P w) k f fd ps sp) : FnOk P w K mg base (L2.CX P w) k f fd ps sp :=
  ⟨F.len, fun A outer s H args us vs Q E hr e0 hb r z => codeAny_mono (F.run A outer s H args us vs Q E hr e0 hb r z) fun out t q => by
    match out, q with
    | .error e, ⟨a, B, H', cls, d, e1, fl, hok, ub, na, os, ag, hE⟩ => exact ⟨a, B, H', cls, d, e1, flyingZ_imp (fun _ z => z.zc) fl, hok, ub, na, os, ag, hE⟩
    | .ok (.ret u), q => exact q
    | .ok .next, q => exact q.elim
    | .ok .brk, q => exact q.elim
    | .ok .cont, q => exact q.elim⟩
section
variable {X : Cx} {x1 x2 x3 n : Str} {c1 c2 c3 : Value} {i kk : Nat} {body rest : List Stmt} {b₀ : Stmt} {p1 p2 p3 tp pos hpos : Pos} {tb : WX → TS} {ts : Addr → Value → Option Addr → TS} {Wo : WX}
theorem ps_try_tup (hst : X.stack = X.env :: X.outer) (hfr : X.env.frame = some X.env.locals) (nd : X.N.Nodup) (hi : X.N[i]? = some n) (loc : X.env.kindOf n = some .local)
    (n1 : Names X x1 c1) (n2 : Names X x2 c2) (n3 : Names X x3 c3) (tk : L2.Takes X Wo)
    (hb : ∀ (W : WX) (pn : List (Addr × Obj)) (xe : Value → Shared → Prop), L2.Takes (X.tr pn xe) W → PassesOwn (model X.prog X.w) X.A X.env xe → PSs (X.tr pn xe) body (tb W))
    (hsu : ∀ (a : Addr) (oe : Obj) (cl : Value) (dd : Option Addr) (pn : List (Addr × Obj)), Zc cl dd oe → (∃ vs, oe.data = .fields vs) → PSs (X.suite a ((a, oe) :: pn)) (b₀ :: rest) (ts a cl dd))
    (s1 : starEach [.Name x1 p1, .Name x2 p2, .Name x3 p3] X.env = (false, eval (.Name x1 p1) X.env) :: starEach [.Name x2 p2, .Name x3 p3] X.env := by rfl)
    (s2 : starEach [.Name x2 p2, .Name x3 p3] X.env = (false, eval (.Name x2 p2) X.env) :: starEach [.Name x3 p3] X.env := by rfl)
    (s3 : starEach [.Name x3 p3] X.env = (false, eval (.Name x3 p3) X.env) :: starEach [] X.env := by rfl) :
    PS X (.Try body [.ExceptHandler (some (.Tuple [.Name x1 p1, .Name x2 p2, .Name x3 p3] kk tp)) (some n) (b₀ :: rest) hpos] [] [] pos) (fun D st hp => tb (wTup X.K [c1, c2, c3] X.N.length i ts Wo D) D st hp) := by
  refine ⟨fun pins s st hp D I wish => ?_⟩
  have ok := I.ok
  have frames : X.A.frames = some (X.env :: X.outer) := ok.frames.trans (congrArg some hst)
  refine wpAny_Try_except ?_
  have body_ := hb (wTup X.K [c1, c2, c3] X.N.length i ts Wo D) (X.pn ++ pins) (fun e t1 => wpAny (model X.prog X.w) X.A (noteFrame e X.env) (fun _ t2 => wpAny (model X.prog X.w) X.A (setFlight e none) (fun _ t3 =>
    wpAny (model X.prog X.w) X.A (handleBy e X.env [.ExceptHandler (some (.Tuple [.Name x1 p1, .Name x2 p2, .Name x3 p3] kk tp)) (some n) (b₀ :: rest) hpos]) (SP X pins D) X.xe t3) X.xe t2) X.xe t1)
  refine wpAny_mono ((body_ (fun u s' xx => ?_) PassesOwn.looking).run [] s st hp D (I.toTry _) wish) (fun f t hsp => ?_) (fun e t q => q)
  · obtain ⟨a, B, sI, pins', st', hp', cl, dd, rfl, J', ground, up, sky, na, os, bare, hit, test, yes, no⟩ := xx
    have J : Inv X pins st' hp' sI := J'.ofTry ok
    have sky2 : L2.Sky B (X.env :: X.outer) a (Zc cl dd) X.env.locals s'.heap := hst ▸ sky
    show wpAny (model X.prog X.w) X.A (noteFrame (.ref a) X.env) _ _ _
    refine L2.Sky.land Zc.steady frames hfr sky2 fun g fl upg => ?_
    have Jg : Inv X pins st' hp' { s' with heap := g } := J.landed ground fl.1 (up.trans upg) os bare
    obtain ⟨oe, vs, ge, ze, de⟩ := fl.there
    have notF : a ∉ frs (X.env :: X.outer) := fun hm => by
      obtain ⟨_, o', e', nf⟩ := fl.2.2.1.mem hm
      exact nf vs ((Option.some.inj (ge.symm.trans e')) ▸ de)
    have nL : a ≠ X.env.locals := fun z => notF (List.mem_filterMap.mpr ⟨X.env, List.mem_cons_self, hfr.trans (congrArg some z.symm)⟩)
    have nF : a ∉ X.fs := fun hm => by
      obtain ⟨e, q1, q2⟩ := List.mem_filterMap.mp hm
      exact notF (List.mem_filterMap.mpr ⟨e, List.mem_cons_of_mem _ q1, q2⟩)
    have Sg := Jg.suite ge de na nL nF
    refine wpAny_handleBy_cons (codeAny_handlers_test ?_) (by intro q; cases q)
    refine Tuple_ (spliced_more (name_hot n1 Sg (spliced_more (name_hot n2 Sg (spliced_more (name_hot n3 Sg (spliced_none ?_)) s3)) s2)) s1)
    refine wpAny_newObj_type ?_
    have fl2 := flying_push fl { cls := .type "tuple", dict := none, data := .seq [c1, c2, c3].toArray }
    have up2 : g.UpToSlots (g.push { cls := .type "tuple", dict := none, data := .seq [c1, c2, c3].toArray }) := slots_push _ _
    have J2 : Inv X pins st' hp' { s' with heap := g.push { cls := .type "tuple", dict := none, data := .seq [c1, c2, c3].toArray } } := J.landed ground fl2.1 ((up.trans upg).trans up2) os bare
    have ty : PySem.W.Looks (model X.prog X.w) (g.push { cls := .type "tuple", dict := none, data := .seq [c1, c2, c3].toArray }) (typeOf (.ref a)) cl := fun A Q E s k q =>
      wpAny_typeOf_ref (k _ _ (Heap.get?_push_of_some _ ge)) (by rw [ze.1]; exact q)
    have LM := PySem.W.exm_tup3 (M := model X.prog X.w) J2.kIn ty (Heap.get?_push_size g rfl) test
    refine LM.here ?_
    cases hit with
    | true =>
      refine codeAny_handlers_suite_as ?_
      refine HandSPX.lands_againZ fl2 fun h4 fl4 up4 => ?_
      have J4 : Inv X pins st' hp' { s' with heap := h4 } := J.landed ground fl4.1 (((up.trans upg).trans up2).trans up4) os bare
      obtain ⟨o4, v4, g4, z4, d4⟩ := fl4.there
      refine store_ok (X := X.suite a ((a, o4) :: (X.pn ++ pins))) (v := .ref a) (J4.suite g4 d4 na nL nF) nd hi (.inl loc) rfl (fun t5 S5 => ?_) (.inr loc)
      refine wpAny_mono ((hsu a o4 cl dd (X.pn ++ pins) z4 ⟨_, d4⟩).run [] t5 _ hp' _ S5 (yes rfl J.len a na)) (fun f t6 q => ?_) (fun _ _ z => z.elim)
      have off : ∀ {st6 : L2.St} {hp6 : Hp} {Q : Shared → Prop}, Inv (X.suite a ((a, o4) :: (X.pn ++ pins))) [] st6 hp6 t6 → (∀ t7, Inv X pins (st6.set i none) hp6 t7 → Q t7) →
          wpAny (model X.prog X.w) X.A (do bindName X.env n .none; unbindBehindTheSuite X.env n hpos) (fun _ t7 => Q t7) X.xe t6 := fun {st6 hp6 Q} S6 k => gone_ok (S6.unsuite ok) nd hi loc k
      match f, q with
      | .next, ⟨_, _, S6, r⟩ => exact off S6 fun t7 J7 => ⟨_, _, J7, r⟩
      | .brk, ⟨_, _, S6, r⟩ => exact off S6 fun t7 J7 => ⟨_, _, J7, r⟩
      | .cont, ⟨_, _, S6, r⟩ => exact off S6 fun t7 J7 => ⟨_, _, J7, r⟩
      | .ret u, ⟨_, _, _, S6, ru, r⟩ => exact off S6 fun t7 J7 => ⟨_, _, _, J7, ru, r⟩
    | false =>
      show wpAny _ X.A (handleBy (.ref a) X.env []) _ _ _
      refine wpAny_handleBy_nil ?_
      obtain ⟨_, _, _, oe', vs', T, oT, ws, k1, _, k2, k3, _⟩ := id fl2
      unfold PySem.passOn
      refine wpAny_bind (wpAny_field k1 k2 k3 ?_)
      rw [if_neg (show ¬ ((Value.ref T == Value.none) = true) from by simp)]
      have last : wpAny (model X.prog X.w) X.A (setFlight (.ref a) X.env.frame) (fun _ t4 => wpAny (model X.prog X.w) X.A (throw (.ref a) : Sem Flow) (SP X pins D) X.xe t4) X.xe { s' with heap := g.push { cls := .type "tuple", dict := none, data := .seq [c1, c2, c3].toArray } } := by
        rw [hfr]
        exact HandSPX.setFlight_upZ fl2 fun h4 held up4 => wpAny_throw (tk _ _ ⟨a, B, sI, pins, st', hp', cl, dd, rfl, J, ground, ((up.trans upg).trans up2).trans up4, .inr (.inr (hst ▸ held)), na, os, bare, no rfl⟩)
      first
        | exact wpAny_bind (wpAny_pure (wpAny_bind last))
        | exact wpAny_bind last
  · match f, hsp with
    | .next, ⟨st', hp', J', q⟩ => exact wpAny_execs_nil ⟨st', hp', J'.ofTry ok, q⟩
    | .brk, ⟨st', hp', J', q⟩ => exact ⟨st', hp', J'.ofTry ok, q⟩
    | .cont, ⟨st', hp', J', q⟩ => exact ⟨st', hp', J'.ofTry ok, q⟩
    | .ret u, ⟨v, st', hp', J', r, q⟩ => exact ⟨v, st', hp', J'.ofTry ok, r, q⟩
end
/-- as FnH, the promise knows the handled exception's object -/
structure FnP (P : Program) (w : World) (K : PySem.W.Frag) (mg : Str → Option Value) (base : Heap) (CX : CXT) (k : Nat) (f : Addr) (fd : FuncData) (ps : List Str) (sp : Addr × Obj → Sp) : Prop where
  len : ∀ p vs H Q E, sp p vs H Q E → vs.length = ps.length
  run : ∀ (p : Addr × Obj) (A : Around) (outer : List Env) (s : Shared) (H : Hp) (args : Args) (us : List Value) (vs : List V) (Q : VK) (E : XK), RoomH k A → HotW A p → PinOk outer H s p → Env0 P w K mg base A outer s H →
    BindsTo s fd args (ps.zip us) → Vals vs us → sp p vs H Q E → codeAny (model P w) A (.call (.ref f) args) (CR CX outer P w H s Q E) s

theorem fn_ofP {CX : CXT} {P : Program} {w : World} {K : PySem.W.Frag} {mg : Str → Option Value} {base : Heap} {k : Nat} {f : Addr} {name qual : Str} {params : Arguments} {body : List Stmt} {scope : Scope} {dV kV doc pm cdv ct oc : Value} {an od : Option Addr}
    {osl : Array (Option Value)} {N ps : List Str} {sp : Addr × Obj → Sp} (lk : K.lookup f = some ⟨oc, od, .func (PySem.W.fnOf name qual params body scope dV kV doc pm an cdv ct), osl⟩) (code : PySem.W.codeIn K cdv qual = true) (S : FnScope N ps scope)
    (len : ∀ p vs H Q E, sp p vs H Q E → vs.length = ps.length)
    (hbody : ∀ (p : Addr × Obj) (A : Around) (outer : List Env) (s : Shared) (H : Hp) (vs : List V) (Q : VK) (E : XK), HotW A p → RoomH k (A.deeper (envOfC qual scope s.heap.objs.size f cdv)) → sp p vs H Q E →
      ∃ t, PSs (cxH CX P w K mg base N qual scope f cdv A outer s H E p) body t ∧ t { nx := fun _ H' => Q .non H', rt := Q } (L2.start N vs) H) :
    FnP P w K mg base CX (k + 1) f (PySem.W.fnOf name qual params body scope dV kV doc pm an cdv ct) ps sp where
  len := len
  run := fun p A outer s H args us vs Q E room hot pin e0 hb r wish => by
    have K1 : K.In s.heap := e0.mod.kin.keeps fun b o e => (e0.bs b o e).1
    have lim : s.heap.NoLimit := e0.mod.nolimit.keeps fun b o e => (e0.bs b o e).1
    have kinds : ∀ y ∈ ps.zip us, scope.names.lookup y.1 = some .local ∨ (scope.names.lookup y.1 = some .cell ∧ ((cellsFrom (s.heap.objs.size + 1) scope.names []).lookup y.1).isSome = true) := fun y hy =>
      (S.par y.1 (List.of_mem_zip (a := y.1) (b := y.2) hy).1).imp id fun q => ⟨q, PySem.W.cellsFrom_some _ _ _ (.inl q)⟩
    refine codeAny_call_function room.depth (K1 _ _ lk) rfl S.co S.gen rfl (PySem.W.codeRec_of K1 code) (hb _ _ _ _ (wpAny_newFunctionEnv_cells S.kind kinds fun env he t1 x => ?_))
    subst he
    obtain ⟨t, ht, hq⟩ := hbody p A outer s H vs Q E hot (room.deeper _) wish
    have I := inv_startH (CX := CX) (E := E) (w := w) S pin e0 (len p vs H Q E wish) r x
    refine ⟨lim.keeps x.toInCall.keep, codeAny_func (wpAny_mono (ht.run [] t1 (L2.start N vs) H _ I hq) (fun fl t2 q => ?_) fun e t2 q => q)⟩
    match fl, q with
    | .ret u, ⟨v, _, H', J, rv, q⟩ => exact ⟨v, H', J.os, J.bare, J.base, J.hok, rv, q⟩
    | .next, ⟨_, H', J, q⟩ => exact ⟨.non, H', J.os, J.bare, J.base, J.hok, rfl, q⟩
    | .brk, ⟨_, _, _, q⟩ => exact q.elim
    | .cont, ⟨_, _, _, q⟩ => exact q.elim

section
variable {X : Cx} {CX : CXT} {k : Nat} {f : Addr} {fd : FuncData} {ps : List Str} {sp : Addr × Obj → Sp} {E : L2.St → XK} {x n : Str} {q pos : Pos} {e : Expr} {es : List Expr} {t : TA} {p : Addr × Obj}
theorem pe_callP (F : FnP X.prog X.w X.K X.mg X.base CX k f fd ps sp) (room : RoomH k X.A) (hot : HotW X.A p) (mem : p ∈ X.pn) (hg : Gl X x) (hm : X.mg x = some (.ref f)) (hk : PySem.W.keepIn X.K (.ref f) = true) (hb : Binds X.K fd ps []) (hx : ∀ σ, PassesAt CX X σ (E σ))
    (ha : PA X (e :: es) t) (hdb : (x == ("__debug__" : Str)) = false := by decide) (he : starEach (e :: es) X.env = (false, eval e X.env) :: starEach es X.env := by rfl) (hpl : (backTo pos (starEach es X.env)).any (·.1) = false := by rfl) :
    PE X (.Call (.Name x q) (e :: es) [] pos) (tCallS (sp p) E t) := by
  refine ⟨fun pins s σ H Q I h => wpAny_Call_Name_kw (ld_glob I hg hm ?_ hdb)⟩
  refine PySem.W.callWith_K (h₀ := X.base) I.ok.mod.kin hk (thn (ha.run pos pins s σ H _ I h) fun us t1 ⟨vs, H1, I1, r, wish⟩ => ⟨I1.kIn, ?_⟩) he hpl
  have b := hb t1 us I1.kIn (by rw [List.append_nil, ← r.length]; exact F.len p _ _ _ _ wish)
  rw [List.append_nil] at b
  obtain ⟨g1, g2, g3, g4, g5⟩ := I1.pin p (List.mem_append_left _ mem)
  refine wpAny_call (codeAny_mono (F.run p X.A X.stack t1 H1 ⟨us, []⟩ us vs Q (E σ) room hot ⟨g1, g2, fun z => (List.mem_cons.mp (I1.stkSub p.1 z)).elim g3 g4, g5⟩ I1.env0 b r wish) fun r t2 q2 => ?_)
  match r, q2 with
  | .error e, q2 => exact hx σ pins H1 t1 e t2 I1 q2
  | .ok (.ret u), q2 => exact I1.after q2
  | .ok .next, q2 => exact q2.elim
  | .ok .brk, q2 => exact q2.elim
  | .ok .cont, q2 => exact q2.elim

end
/-- the context of the lambda's body; what leaves it bears the context None -/
def lamN (X : Cx) (A : Around) (outer : List Env) (s : Shared) (H : Hp) (E : XK) (scope : Scope) (f c' : Addr) : Cx :=
  { LamX.lamCx X A outer s H E scope f c' with xe := fun e t => wpAny (model X.prog X.w) (A.deeper (lamEnv X scope s.heap.objs.size f c')) (leaving (lamEnv X scope s.heap.objs.size f c') e) (fun _ u => L2.CX X.prog X.w outer H s E e u) (fun e' u => L2.CX X.prog X.w outer H s E e' u) t }
theorem lamN_takes {X : Cx} {A : Around} {outer : List Env} {s : Shared} {H : Hp} {E : XK} {scope : Scope} {f c' : Addr} : L2.Takes (lamN X A outer s H E scope f c') (fun cls d _ H => E cls d H) := L2.takes_of rfl rfl rfl rfl

section
variable {X : Cx} {pins : List (Addr × Obj)} {σ : L2.St} {H HZ : Hp} {s t1 : Shared}
theorem lam_in {A : Around} {outer : List Env} {E : XK} {scope : Scope} {f c' : Addr} {h₁ : Heap} {tk : Nat} {bs : List (Str × Value)} (I : Inv X pins σ H s) (L : LamD X.N X.env.scope scope) (e0 : Env0 X.prog X.w X.K X.mg X.base A outer t1 HZ) (calm : A.handled = none)
    (un : Un (frs X.stack) [] H HZ s.heap t1.heap) (hns : h₁.Ns t1.heap.objs.size fun y => bs.reverse.lookup y) (kp : ∀ b o, t1.heap.get? b = some o → h₁.get? b = some o) :
    Inv (lamN X A outer t1 HZ E scope f c') [] σ HZ { t1 with heap := h₁, toks := tk } := by
  have has := L.has I.ok
  have up : ∀ {y c}, (cloFrom X.env.cells scope.names []).lookup y = some c → X.env.cells.lookup y = some c := fun {y c} e => by
    rcases cloFrom_mem (PySem.mem_of_lookup e) with z | ⟨z1, z2⟩
    · cases z
    · obtain ⟨c1, hc⟩ := has _ z1 rfl
      have hc : X.env.cells.lookup y = some c1 := hc
      have e2 : c = c1 := by
        rw [z2, hc] <;> rfl
      exact e2 ▸ hc
  have down : ∀ {y}, scope.names.lookup y = some .free → ∃ c, (cloFrom X.env.cells scope.names []).lookup y = some c := fun {y} e =>
    mem_lookup (cloFrom_has (cells := X.env.cells) (acc := []) (show (y, NameKind.free) ∈ scope.names from PySem.mem_of_lookup e))
  have cell_ : ∀ {c : Addr} {v : Option Value}, H c = none → s.heap.IsCell c v → h₁.IsCell c v := fun {c v} n ⟨o, ho, hd⟩ => by
    obtain ⟨sl, q⟩ := un.any ho n (by simp)
    exact ⟨_, kp _ _ q, hd⟩
  have noX : ∀ b : Addr, b ∉ (lamN X A outer t1 HZ E scope f c').ex := fun b z => absurd (show b ∈ ([] : List Addr) from z) (by simp)
  refine ⟨⟨e0.mod, L.kind, rfl, rfl, Nat.le_refl _, fun y z c e1 e2 => I.ok.inj y z c (up e1) (up e2), fun y hy => ?_, fun y c z _ => Bool.noConfusion (show false = true from z), fun _ => calm, Around.frames_deeper e0.frames, .inr ⟨rfl, rfl⟩, fun b z => absurd z (noX b), e0.bs, e0.bsz, fun b _ _ => noX b,
      fun b z => absurd z (noX b), e0.funs, e0.frf⟩,
    rfl, e0.bare, Un.kept kp, ⟨_, hns, fun i y v e1 e2 e3 => ?_⟩, fun y c e => ?_, e0.hok.fresh (Nat.le_refl _), fun y c e => ?_, fun q hq => absurd (show q ∈ ([] : List (Addr × Obj)) ++ [] from hq) (by simp), e0.hok.kept kp, I.len⟩
  · rcases (show scope.names.lookup y = some .cell ∨ scope.names.lookup y = some .free from hy) with k | k
    · exact absurd rfl (L.noc _ (PySem.mem_of_lookup k))
    · exact down k
  · rcases (show Vis scope y from e3) with k | k | k
    · exact absurd (List.mem_of_getElem? (show X.N[i]? = some y from e1)) (L.loc _ (PySem.mem_of_lookup k) rfl)
    · exact absurd rfl (L.noc _ (PySem.mem_of_lookup k))
    · obtain ⟨m, hn, hl⟩ := I.loc
      have out := L.free _ (PySem.mem_of_lookup k) rfl
      obtain ⟨w', r, q⟩ := hl i y v e1 e2 (out.elim (fun k => .inr (.inl k)) (fun k => .inr (.inr k)))
      obtain ⟨c2, h2⟩ := down k
      refine ⟨w', r, .inr ⟨.inr k, c2, h2, ?_⟩⟩
      have c1 := up h2
      rcases q with ⟨k', _⟩ | ⟨_, c3, e', z⟩
      · have k' : X.env.scope.names.lookup y = some .local := k'
        rcases out with k2 | k2 <;> rw [show X.env.scope.names.lookup y = _ from k2] at k' <;> cases k'
      · rw [c1] at e'
        cases e'
        exact cell_ (I.freeC y _ c1) z
  · obtain ⟨w', z⟩ := I.cell y c (up e)
    exact ⟨w', cell_ (I.freeC y c (up e)) z⟩
  · obtain ⟨v, o, ho, _⟩ := I.cell y c (up e)
    exact un.free c o ho (I.freeC y c (up e)) (by simp)

/-- a(): a is the name under which the def got the lambda -/
theorem pe_ask {CXg : CXT} {Eg : XK} {Ng : List Str} {qg : Str} {sg : Scope} {g f c' : Addr} {cdg : Value} {params : Arguments} {body : Expr} {scope : Scope} {as : List Str} {k i : Nat} {a : Str} {pn : List (Addr × Obj)} {xe : Value → Shared → Prop} {W : WX} {E : XK} {tb : TE} {p1 p2 : Pos}
    (I : Inv X pins σ H s) (L : LamD X.N X.env.scope scope) (rd : Ready X f c' params body scope as H s.heap) (locs : ∀ y ∈ as, scope.names.lookup y = some .local)
    (tk : L2.Takes ((cxOf CXg X.prog X.w X.K X.mg X.base Ng qg sg g cdg X.A X.stack s H Eg).tr pn xe) W) (hW : ∀ cls d σ' H', E cls d H' → W cls d σ' H') (room : Room (k + 1) (X.A.deeper (envOfC qg sg s.heap.objs.size g cdg)))
    (hbody : ∀ (A : Around) (outer : List Env) (s : Shared) (H : Hp), Room k (A.deeper (lamEnv X scope s.heap.objs.size f c')) → PE (lamN X A outer s H E scope f c') body tb)
    (hN : Ng[i]? = some a) (hv : Vis sg a) (hd : (a == ("__debug__" : Str)) = false := by decide) (hcd : (a == ("__classdict__" : Str)) = false := by decide) :
    PE ((cxOf CXg X.prog X.w X.K X.mg X.base Ng qg sg g cdg X.A X.stack s H Eg).tr pn xe) (.Call (.Name a p1) [] [] p2)
      (fun σZ HZ Q => σZ[i]? = some (some (.ref f)) ∧ HZ c' = some (CodeO c' (X.env.qual ++ "<lambda>")) ∧ tb σ HZ Q) := by
  refine ⟨fun pinsZ sZ σZ HZ Q IZ ⟨slot, code, wish⟩ => ?_⟩
  refine wpAny_Call_Name_kw (thn ((pe_var (pos := p1) (i := i) hN hv hd hcd).run pinsZ sZ σZ HZ (fun v H1 => v = .ref f ∧ H1 = HZ) IZ ⟨.ref f, slot, rfl, rfl⟩) fun u t1 ⟨v, H1, I1, r1, ev, eH⟩ => ?_)
  subst ev
  rw [eH] at I1
  obtain rfl : u = Value.ref f := r1
  obtain ⟨dV, doc, pm, ctv, gf, nf, off, bind⟩ := rd
  have un : Un (frs X.stack) [] H HZ s.heap t1.heap := I1.base
  have keep : ∀ b o, s.heap.get? b = some o → H b = none → b ∉ frs X.stack → t1.heap.get? b = some o := fun b o e n z => un.keep b o e n z (fun z => nomatch (show b ∈ ([] : List Addr) from z))
  have of1 := keep f _ gf nf off
  obtain ⟨us, len, bt⟩ := bind t1 keep
  refine PySem.W.callWith_F0 ⟨_, _, _, _, of1⟩ ?_
  obtain ⟨⟨oc, vs, t, hoc, hdc, hvc⟩, _, _⟩ := I1.hok c' _ code
  have rc : codeAny (model X.prog X.w) (X.A.deeper (envOfC qg sg s.heap.objs.size g cdg)) (.call (.ref f) ⟨[], []⟩) (CR (L2.CX X.prog X.w) (envOfC qg sg s.heap.objs.size g cdg :: X.stack) X.prog X.w HZ t1 Q E) t1 := by
    refine PySem.W.kla_callFunE room.depth of1 rfl L.co L.gen rfl ⟨c', oc, vs, t, rfl, hoc, hdc, hvc⟩ (bt _ _ _ _ ?_)
    refine wpAny_newFunctionEnv L.noc (fun y hy => locs _ (List.of_mem_zip (a := y.1) (b := y.2) hy).1) (fun h₁ hns hsb => ⟨I1.nolimit.fresh _ hsb, ?_⟩) L.kind
    show codeAny _ _ (.expr body (lamEnv X scope t1.heap.objs.size f c')) _ _
    have kp : ∀ b o, t1.heap.get? b = some o → h₁.get? b = some o := fun b o e => hsb.extBut b o (Nat.ne_of_lt (Heap.lt_size e)) (Heap.get?_push_of_some _ e)
    have J : Inv (lamN X (X.A.deeper (envOfC qg sg s.heap.objs.size g cdg)) (envOfC qg sg s.heap.objs.size g cdg :: X.stack) t1 HZ E scope f c') [] σ HZ { t1 with heap := h₁, toks := t1.toks + (as.zip us).length } := lam_in I L I1.env0 room.hd un hns kp
    refine PySem.W.kla_codeExpr (wpAny_mono ((hbody _ _ t1 HZ (room.deeper _)).run [] _ _ HZ Q J wish) (fun v t2 ⟨w', H', J', rv, q⟩ => ?_) fun e t2 q => q)
    exact ⟨w', H', J'.os, J'.bare, J'.base, J'.hok, rv, q⟩
  refine wpAny_call (codeAny_mono rc fun r t2 q => ?_)
  match r, q with
  | .error e, q => exact L2.passes_call tk hW pinsZ σZ HZ t1 e t2 I1 q
  | .ok (.ret u), q => exact I1.after q
  | .ok .next, q => exact q.elim
  | .ok .brk, q => exact q.elim
  | .ok .cont, q => exact q.elim
end

/-- the def that calls what it got under the name a; TT: what it makes of the lambda's reading -/
def GivesN (X : Cx) (Ng : List Str) (x : Str) (sg : Scope) (g : Addr) (cdg : Value) (bg : List Stmt) (a q : Str) (j : Nat) (TT : (XK → Hp → VK → Prop) → Hp → VK → Prop) : Prop :=
  ∀ (f c' : Addr) (s : Shared) (H : Hp) (Q : VK) (tl : XK → Hp → VK → Prop), Room j (X.A.deeper (envOfC x sg s.heap.objs.size g cdg)) →
    (∀ (W : WX) (pn : List (Addr × Obj)) (xe : Value → Shared → Prop) (E : XK) (p1 p2 : Pos), L2.Takes ((cxOf C8.CX0 X.prog X.w X.K X.mg X.base Ng x sg g cdg X.A X.stack s H C8.E0).tr pn xe) W → (∀ cls d σ' H', E cls d H' → W cls d σ' H') →
      PE ((cxOf C8.CX0 X.prog X.w X.K X.mg X.base Ng x sg g cdg X.A X.stack s H C8.E0).tr pn xe) (.Call (.Name a p1) [] [] p2) (fun σZ HZ Q => σZ[0]? = some (some (.ref f)) ∧ HZ c' = some (CodeO c' q) ∧ tl E HZ Q)) →
    H c' = some (CodeO c' q) → TT tl H Q →
    ∃ t, PSs (cxOf C8.CX0 X.prog X.w X.K X.mg X.base Ng x sg g cdg X.A X.stack s H C8.E0).nox bg t ∧ t { nx := fun _ H' => Q .non H', rt := Q } (L2.start Ng [.ref f]) H
section
variable {X : Cx}
theorem pe_lam {T : List (Addr × Str)} {TT : (XK → Hp → VK → Prop) → Hp → VK → Prop} {x a : Str} {g c P : Addr} {k : Nat} {pg : Arguments} {bg : List Stmt} {sg : Scope} {dV kV doc pm cdv ct oc : Value} {an od : Option Addr} {osl : Array (Option Value)} {Ng as : List Str}
    {params : Arguments} {body : Expr} {scope : Scope} {t : XK → TE} {p lpos pos : Pos} (hg : Gl X x) (hm : X.mg x = some (.ref g)) (hk : PySem.W.keepIn X.K (.ref g) = true)
    (lk : X.K.lookup g = some ⟨oc, od, .func (PySem.W.fnOf x x pg bg sg dV kV doc pm an cdv ct), osl⟩) (hcg : PySem.W.codeIn X.K cdv x = true) (hb : L2.Binds X.K (PySem.W.fnOf x x pg bg sg dV kV doc pm an cdv ct) [a] []) (Sg : FnScope Ng [a] sg) (hNg : Ng[0]? = some a) (hva : Vis sg a)
    (hG : GivesN X Ng x sg g cdv bg a (X.env.qual ++ "<lambda>") (k + 1) TT)
    (TB : TabB X.base X.mg c P) (hcode : X.env.code = .ref c) (hmT : (P, X.env.qual ++ "<lambda>") ∈ T) (hu : ∀ p ∈ T, p.1 = P → p.2 = X.env.qual ++ "<lambda>") (room : Room (k + 2) X.A) (L : LamD X.N X.env.scope scope) (du : Dums params body scope as) (locs : ∀ y ∈ as, scope.names.lookup y = some .local)
    (hbody : ∀ (A : Around) (outer : List Env) (s : Shared) (H : Hp) (E : XK) (f c' : Addr), Room k (A.deeper (lamEnv X scope s.heap.objs.size f c')) → PE (lamN X A outer s H E scope f c') body (t E))
    (hdb : (x == ("__debug__" : Str)) = false := by decide) (hd : (a == ("__debug__" : Str)) = false := by decide) (hcd : (a == ("__classdict__" : Str)) = false := by decide) :
    PE X (.Call (.Name x p) [.Lambda params body scope lpos] [] pos) (tLam T TT t) := by
  refine ⟨fun pins s σ H Q I ⟨hT, wish⟩ => wpAny_Call_Name_kw (ld_glob I hg hm ?_ hdb)⟩
  refine PySem.W.callWith_K (h₀ := X.base) I.ok.mod.kin hk ?_ (by rfl) (by rfl)
  show wpAny _ _ (spliced ((false, eval (.Lambda params body scope lpos) X.env) :: backTo pos (starEach [] X.env))) _ _ s
  refine Calls.spliced_cons (lam_made I TB hcode hmT hu hT (L.has I.ok) du fun f c' H1 t1 I1 e1 T1 rd hco => Calls.spliced_nil ⟨I1.kIn, ?_⟩)
  have rc : codeAny (model X.prog X.w) X.A (.call (.ref g) ⟨[.ref f], []⟩) (CR C8.CX0 X.stack X.prog X.w H1 t1 Q C8.E0) t1 := by
    refine run_ofS (N := Ng) (ps := [a]) (us := [.ref f]) (vs := [.ref f]) lk hcg Sg room I1.env0 (hb t1 [.ref f] I1.kIn rfl) (.cons rfl .nil) rfl fun room1 => ?_
    obtain ⟨t', ht', hq'⟩ := hG f c' t1 H1 Q (fun E H' Q' => t E σ H' Q') room1 (fun W pn xe E p1 p2 tk hW => pe_ask (i := 0) I1 L rd locs tk hW room1 (fun A outer s H room2 => hbody A outer s H E f c' room2) hNg hva hd hcd) hco (wish H1 e1 T1)
    exact ⟨t', ht'.nox, hq'⟩
  refine wpAny_call (codeAny_mono rc fun r t2 q => ?_)
  match r, q with
  | .error e, q => exact (show False from q).elim
  | .ok (.ret u), q => exact I1.after q
  | .ok .next, q => exact q.elim
  | .ok .brk, q => exact q.elim
  | .ok .cont, q => exact q.elim
end
end FlC
/-! Written by tools/gen_c.py: _law_field and _law_told where the exception's context may be anything. -/
namespace L2.FK
open PySem PySem.Spec PyProof.Rows L2.FL FlT LamX
theorem takesC {X : Cx} : L2.Takes X (fun _ _ _ _ => False) := fun _ _ x => by
  obtain ⟨_, _, _, _, _, _, _, _, _, _, _, _, _, _, _, _, z⟩ := x
  exact z.elim
section
variable {P : Program} {w : World} {K : PySem.W.Frag} {mg : Str → Option Value} {base : Heap}
theorem ok_fieldC (h : Has K mg "_law_field" sField ["_law_e"]) : ∃ f fd, FlC.FnP P w K mg base C8.CX0 1 f fd ["_law_e"] (spField K) ∧ mg "_law_field" = some (.ref f) ∧ PySem.W.keepIn K (.ref f) = true ∧ Binds K fd ["_law_e"] [] := by
  obtain ⟨f, fd, F, b⟩ := h
  obtain ⟨oc, od, dV, kV, doc, pm, an, cdv, ct, osl, rfl, lk, code⟩ := F.fn.ex
  refine ⟨f, _, FlC.fn_ofP lk code sc_fd (fun p vs H Q E z => by rw [z.1]; rfl) (fun p A outer s H vs Q E hot room z => ?_), F.mgf, F.kp, b⟩
  obtain ⟨rfl, x, v, ⟨C, d, fs, ec, ed, xf, no, hd, hw, tell⟩, q⟩ := z
  obtain ⟨_, ws, data⟩ := hot
  have mem : p ∈ (L2H.cxH C8.CX0 P w K mg base ["_law_e"] "_law_field" (C8.fnScope sField) f cdv A outer s H E p).pn := List.mem_cons_self
  refine ⟨_, (pss_cons (ps_if (pt_cmpR op_in_seq (pe_xp (p := p) mem ⟨ws, data⟩ (pv 0)) (pe_tup (pa_cons pe_str (pa_cons pe_str (pa_cons pe_str pa_nil)))) rfl) (pss_one (ps_ret (pe_xp (p := p) mem ⟨ws, data⟩ (pv 0)))) pss_nil)
    (pss_cons (ps_if (pt_cmpR op_in_seq (pe_xp (p := p) mem ⟨ws, data⟩ (pv 0)) (pe_tup (pa_cons pe_str (pa_cons pe_str pa_nil))) rfl) (pss_one (ps_ret (pe_xp (p := p) mem ⟨ws, data⟩ (pv 0)))) pss_nil)
    (pss_cons (ps_if (pt_cmpR op_in_seq (pe_xp (p := p) mem ⟨ws, data⟩ (pv 0)) (pe_tup (pa_cons pe_str (pa_cons pe_str (pa_cons pe_str (pa_cons pe_str (pa_cons pe_str pa_nil)))))) rfl) (pss_one (ps_ret (pe_xp (p := p) mem ⟨ws, data⟩ (pv 0)))) pss_nil)
    (pss_cons (ps_if (pt_cmpR op_in_seq (pe_xp (p := p) mem ⟨ws, data⟩ (pv 0)) (pe_tup (pa_cons pe_str (pa_cons pe_str (pa_cons pe_str (pa_cons pe_str pa_nil))))) rfl) (pss_one (ps_ret (pe_xp (p := p) mem ⟨ws, data⟩ (pv 0)))) pss_nil)
    (pss_cons (ps_if (pt_cmpR op_in_seq (pe_xp (p := p) mem ⟨ws, data⟩ (pv 0)) (pe_tup (pa_cons pe_str (pa_cons pe_str (pa_cons pe_str pa_nil)))) rfl) (pss_one (ps_ret (pe_ifExp (pt_cmpR op_eq (pe_xp (p := p) mem ⟨ws, data⟩ (pv 0)) pe_str (nomark _)) (pe_xp (p := p) mem ⟨ws, data⟩ (pv 0)) (pe_ifExp (pt_cmpR op_eq (pe_xp (p := p) mem ⟨ws, data⟩ (pv 0)) pe_str (nomark _)) (pe_xp (p := p) mem ⟨ws, data⟩ (pv 0)) (pe_xp (p := p) mem ⟨ws, data⟩ (pv 0)))))) pss_nil)
    (pss_cons (ps_if (pt_cmpR op_in_seq (pe_xp (p := p) mem ⟨ws, data⟩ (pv 0)) (pe_tup (pa_cons pe_str (pa_cons pe_str pa_nil))) rfl) (pss_one (ps_ret (pe_ifExp (pt_cmpR op_eq (pe_xp (p := p) mem ⟨ws, data⟩ (pv 0)) pe_str (nomark _)) (pe_xp (p := p) mem ⟨ws, data⟩ (pv 0)) (pe_xp (p := p) mem ⟨ws, data⟩ (pv 0))))) pss_nil)
    (pss_one (ps_ret (pe_ifExp (pt_cmpR op_eq (pe_xp (p := p) mem ⟨ws, data⟩ (pv 0)) pe_str (nomark _)) (pe_xp (p := p) mem ⟨ws, data⟩ (pv 0)) pe_non))))))))), ?_⟩
  have wd : Wd K p fs H := ⟨C, d, ec, ed, xf, no, hd⟩
  have step : ∀ (b : Bool) {H1 : Hp} {ws' : List V} {tl : TA} {k : Bool → Hp → Prop}, Same H H1 → (∀ H Q, Q ws' H → tl (L2.start ["_law_e"] [.ref p.1]) H Q) → ws'.length ≤ sizeLine → ws'.all flatV = true → inV (.str x) ws' = b → (∀ H2, Same H H2 → k b H2) →
      tTest (tOp (rIn K false) (tXp K p "word" (tVar 0)) (tTup tl)) (L2.start ["_law_e"] [.ref p.1]) H1 k := fun b {H1 ws' tl k} s r hl hf hb q => (wd.mono s).isin b rfl hw r hl hf hb fun H2 s2 => q H2 (s.trans s2)
  rcases tell with ⟨hx, hv⟩ | ⟨hx, hv⟩ | ⟨hx, hv⟩ | ⟨hx, hv⟩ | ⟨rfl, hv⟩ | ⟨rfl, hv⟩ | ⟨rfl, hv⟩ | ⟨rfl, hv⟩ | ⟨rfl, hv⟩ | ⟨rfl, hv⟩ | ⟨hx, rfl⟩
  · skip
    have y0 : inV (.str x) [.str "BadPlace", .str "BadGoal", .str "NotBijective"] = true := by
      simp only [List.mem_cons, List.not_mem_nil, or_false] at hx
      rcases hx with rfl | rfl | rfl <;> rfl
    refine step true (Same.refl _) (fun _ _ z => z) (by decide) rfl y0 fun H1 s1 => iteT ?_
    exact (wd.mono s1).get (by decide) rfl hv (q _ s1)
  · skip
    have y0 : inV (.str x) [.str "BadPlace", .str "BadGoal", .str "NotBijective"] = false := by
      simp only [List.mem_cons, List.not_mem_nil, or_false] at hx
      rcases hx with rfl | rfl <;> rfl
    have y1 : inV (.str x) [.str "TooWide", .str "TooMany"] = true := by
      simp only [List.mem_cons, List.not_mem_nil, or_false] at hx
      rcases hx with rfl | rfl <;> rfl
    refine step false (Same.refl _) (fun _ _ z => z) (by decide) rfl y0 fun H1 s1 => iteF ?_
    refine step true s1 (fun _ _ z => z) (by decide) rfl y1 fun H2 s2 => iteT ?_
    exact (wd.mono s2).get (by decide) rfl hv (q _ s2)
  · skip
    have y0 : inV (.str x) [.str "BadPlace", .str "BadGoal", .str "NotBijective"] = false := by
      simp only [List.mem_cons, List.not_mem_nil, or_false] at hx
      rcases hx with rfl | rfl | rfl | rfl | rfl <;> rfl
    have y1 : inV (.str x) [.str "TooWide", .str "TooMany"] = false := by
      simp only [List.mem_cons, List.not_mem_nil, or_false] at hx
      rcases hx with rfl | rfl | rfl | rfl | rfl <;> rfl
    have y2 : inV (.str x) [.str "BadMove", .str "BadText", .str "BadSyntax", .str "BadProgram", .str "Stopped"] = true := by
      simp only [List.mem_cons, List.not_mem_nil, or_false] at hx
      rcases hx with rfl | rfl | rfl | rfl | rfl <;> rfl
    refine step false (Same.refl _) (fun _ _ z => z) (by decide) rfl y0 fun H1 s1 => iteF ?_
    refine step false s1 (fun _ _ z => z) (by decide) rfl y1 fun H2 s2 => iteF ?_
    refine step true s2 (fun _ _ z => z) (by decide) rfl y2 fun H3 s3 => iteT ?_
    exact (wd.mono s3).get (by decide) rfl hv (q _ s3)
  · skip
    have y0 : inV (.str x) [.str "BadPlace", .str "BadGoal", .str "NotBijective"] = false := by
      simp only [List.mem_cons, List.not_mem_nil, or_false] at hx
      rcases hx with rfl | rfl | rfl | rfl <;> rfl
    have y1 : inV (.str x) [.str "TooWide", .str "TooMany"] = false := by
      simp only [List.mem_cons, List.not_mem_nil, or_false] at hx
      rcases hx with rfl | rfl | rfl | rfl <;> rfl
    have y2 : inV (.str x) [.str "BadMove", .str "BadText", .str "BadSyntax", .str "BadProgram", .str "Stopped"] = false := by
      simp only [List.mem_cons, List.not_mem_nil, or_false] at hx
      rcases hx with rfl | rfl | rfl | rfl <;> rfl
    have y3 : inV (.str x) [.str "Taken", .str "NoName", .str "NoBead", .str "NoMap"] = true := by
      simp only [List.mem_cons, List.not_mem_nil, or_false] at hx
      rcases hx with rfl | rfl | rfl | rfl <;> rfl
    refine step false (Same.refl _) (fun _ _ z => z) (by decide) rfl y0 fun H1 s1 => iteF ?_
    refine step false s1 (fun _ _ z => z) (by decide) rfl y1 fun H2 s2 => iteF ?_
    refine step false s2 (fun _ _ z => z) (by decide) rfl y2 fun H3 s3 => iteF ?_
    refine step true s3 (fun _ _ z => z) (by decide) rfl y3 fun H4 s4 => iteT ?_
    exact (wd.mono s4).get (by decide) rfl hv (q _ s4)
  · skip
    refine step false (Same.refl _) (fun _ _ z => z) (by decide) rfl rfl fun H1 s1 => iteF ?_
    refine step false s1 (fun _ _ z => z) (by decide) rfl rfl fun H2 s2 => iteF ?_
    refine step false s2 (fun _ _ z => z) (by decide) rfl rfl fun H3 s3 => iteF ?_
    refine step false s3 (fun _ _ z => z) (by decide) rfl rfl fun H4 s4 => iteF ?_
    refine step true s4 (fun _ _ z => z) (by decide) rfl rfl fun H5 s5 => iteT ?_
    refine (wd.mono s5).iseq true rfl hw (by decide) (iteT ?_)
    exact (wd.mono s5).get (by decide) rfl hv (q _ s5)
  · skip
    refine step false (Same.refl _) (fun _ _ z => z) (by decide) rfl rfl fun H1 s1 => iteF ?_
    refine step false s1 (fun _ _ z => z) (by decide) rfl rfl fun H2 s2 => iteF ?_
    refine step false s2 (fun _ _ z => z) (by decide) rfl rfl fun H3 s3 => iteF ?_
    refine step false s3 (fun _ _ z => z) (by decide) rfl rfl fun H4 s4 => iteF ?_
    refine step true s4 (fun _ _ z => z) (by decide) rfl rfl fun H5 s5 => iteT ?_
    refine (wd.mono s5).iseq false rfl hw (by decide) (iteF ?_)
    refine (wd.mono s5).iseq true rfl hw (by decide) (iteT ?_)
    exact (wd.mono s5).get (by decide) rfl hv (q _ s5)
  · skip
    refine step false (Same.refl _) (fun _ _ z => z) (by decide) rfl rfl fun H1 s1 => iteF ?_
    refine step false s1 (fun _ _ z => z) (by decide) rfl rfl fun H2 s2 => iteF ?_
    refine step false s2 (fun _ _ z => z) (by decide) rfl rfl fun H3 s3 => iteF ?_
    refine step false s3 (fun _ _ z => z) (by decide) rfl rfl fun H4 s4 => iteF ?_
    refine step true s4 (fun _ _ z => z) (by decide) rfl rfl fun H5 s5 => iteT ?_
    refine (wd.mono s5).iseq false rfl hw (by decide) (iteF ?_)
    refine (wd.mono s5).iseq false rfl hw (by decide) (iteF ?_)
    exact (wd.mono s5).get (by decide) rfl hv (q _ s5)
  · skip
    refine step false (Same.refl _) (fun _ _ z => z) (by decide) rfl rfl fun H1 s1 => iteF ?_
    refine step false s1 (fun _ _ z => z) (by decide) rfl rfl fun H2 s2 => iteF ?_
    refine step false s2 (fun _ _ z => z) (by decide) rfl rfl fun H3 s3 => iteF ?_
    refine step false s3 (fun _ _ z => z) (by decide) rfl rfl fun H4 s4 => iteF ?_
    refine step false s4 (fun _ _ z => z) (by decide) rfl rfl fun H5 s5 => iteF ?_
    refine step true s5 (fun _ _ z => z) (by decide) rfl rfl fun H6 s6 => iteT ?_
    refine (wd.mono s6).iseq true rfl hw (by decide) (iteT ?_)
    exact (wd.mono s6).get (by decide) rfl hv (q _ s6)
  · skip
    refine step false (Same.refl _) (fun _ _ z => z) (by decide) rfl rfl fun H1 s1 => iteF ?_
    refine step false s1 (fun _ _ z => z) (by decide) rfl rfl fun H2 s2 => iteF ?_
    refine step false s2 (fun _ _ z => z) (by decide) rfl rfl fun H3 s3 => iteF ?_
    refine step false s3 (fun _ _ z => z) (by decide) rfl rfl fun H4 s4 => iteF ?_
    refine step false s4 (fun _ _ z => z) (by decide) rfl rfl fun H5 s5 => iteF ?_
    refine step true s5 (fun _ _ z => z) (by decide) rfl rfl fun H6 s6 => iteT ?_
    refine (wd.mono s6).iseq false rfl hw (by decide) (iteF ?_)
    exact (wd.mono s6).get (by decide) rfl hv (q _ s6)
  · skip
    refine step false (Same.refl _) (fun _ _ z => z) (by decide) rfl rfl fun H1 s1 => iteF ?_
    refine step false s1 (fun _ _ z => z) (by decide) rfl rfl fun H2 s2 => iteF ?_
    refine step false s2 (fun _ _ z => z) (by decide) rfl rfl fun H3 s3 => iteF ?_
    refine step false s3 (fun _ _ z => z) (by decide) rfl rfl fun H4 s4 => iteF ?_
    refine step false s4 (fun _ _ z => z) (by decide) rfl rfl fun H5 s5 => iteF ?_
    refine step false s5 (fun _ _ z => z) (by decide) rfl rfl fun H6 s6 => iteF ?_
    refine (wd.mono s6).iseq true rfl hw (by decide) (iteT ?_)
    exact (wd.mono s6).get (by decide) rfl hv (q _ s6)
  · skip
    have y0 : inV (.str x) [.str "BadPlace", .str "BadGoal", .str "NotBijective"] = false := by
      simp only [List.mem_cons, List.not_mem_nil, or_false] at hx
      rcases hx with rfl | rfl | rfl | rfl | rfl | rfl | rfl <;> rfl
    have y1 : inV (.str x) [.str "TooWide", .str "TooMany"] = false := by
      simp only [List.mem_cons, List.not_mem_nil, or_false] at hx
      rcases hx with rfl | rfl | rfl | rfl | rfl | rfl | rfl <;> rfl
    have y2 : inV (.str x) [.str "BadMove", .str "BadText", .str "BadSyntax", .str "BadProgram", .str "Stopped"] = false := by
      simp only [List.mem_cons, List.not_mem_nil, or_false] at hx
      rcases hx with rfl | rfl | rfl | rfl | rfl | rfl | rfl <;> rfl
    have y3 : inV (.str x) [.str "Taken", .str "NoName", .str "NoBead", .str "NoMap"] = false := by
      simp only [List.mem_cons, List.not_mem_nil, or_false] at hx
      rcases hx with rfl | rfl | rfl | rfl | rfl | rfl | rfl <;> rfl
    have y4 : inV (.str x) [.str "BadLane", .str "BadSpot", .str "BadDegree"] = false := by
      simp only [List.mem_cons, List.not_mem_nil, or_false] at hx
      rcases hx with rfl | rfl | rfl | rfl | rfl | rfl | rfl <;> rfl
    have y5 : inV (.str x) [.str "Held", .str "BadCount"] = false := by
      simp only [List.mem_cons, List.not_mem_nil, or_false] at hx
      rcases hx with rfl | rfl | rfl | rfl | rfl | rfl | rfl <;> rfl
    have yn : decide (V.str x = V.str "BadPage") = false := by
      simp only [List.mem_cons, List.not_mem_nil, or_false] at hx
      rcases hx with rfl | rfl | rfl | rfl | rfl | rfl | rfl <;> decide
    refine step false (Same.refl _) (fun _ _ z => z) (by decide) rfl y0 fun H1 s1 => iteF ?_
    refine step false s1 (fun _ _ z => z) (by decide) rfl y1 fun H2 s2 => iteF ?_
    refine step false s2 (fun _ _ z => z) (by decide) rfl y2 fun H3 s3 => iteF ?_
    refine step false s3 (fun _ _ z => z) (by decide) rfl y3 fun H4 s4 => iteF ?_
    refine step false s4 (fun _ _ z => z) (by decide) rfl y4 fun H5 s5 => iteF ?_
    refine step false s5 (fun _ _ z => z) (by decide) rfl y5 fun H6 s6 => iteF ?_
    exact (wd.mono s6).iseq false rfl hw yn (iteF (q _ s6))
end
section
variable {X : Cx} {g : Addr} {cdg : Value} {q : Str} {j : Nat} {LE MI NL : Addr}
theorem told_givesC (hF : Has X.K X.mg "_law_field" sField ["_law_e"]) (m1 : X.mg "LaneError" = some (.ref LE)) (m2 : X.mg "Missing" = some (.ref MI)) (m3 : X.mg "NothingLeft" = some (.ref NL)) (hj : 1 ≤ j) :
    FlC.GivesN X nTold "_law_told" (C8.fnScope sTold) g cdg (C8.fnBody sTold) "_law_ask" q j (TTold X.K [.ref LE, .ref MI, .ref NL]) := by
  intro f c' s H Q tl room act hc wish
  obtain ⟨ff, fdf, F, mF, kF, bF⟩ := ok_fieldC (P := X.prog) (w := X.w) (base := X.base) hF
  refine ⟨_, pss_one (FlC.ps_try_tup (X := (cxOf C8.CX0 X.prog X.w X.K X.mg X.base nTold "_law_told" (C8.fnScope sTold) g cdg X.A X.stack s H C8.E0).nox) (i := 1) (c1 := .ref LE) (c2 := .ref MI) (c3 := .ref NL)
      (tb := fun W D σ H => ∃ Ech : XK, (∀ cl dd σ' H', Ech cl dd H' → W cl dd σ' H') ∧ σ[0]? = some (some (.ref f)) ∧ H c' = some (CodeO c' q) ∧ tl Ech H fun v H1 => [V.str "told", v].length ≤ sizeLine ∧ ∀ b, H1 b = none → D.rt (.ref b) (upd H1 b (.tup [.str "told", v])))
      (ts := fun a cl dd D σ H => σ[1]? = some (some (.ref a)) ∧ ∃ x v, TellsAt X.K H cl dd x v ∧ ∀ b H2, Same H H2 → H2 b = none → D.rt (.ref b) (upd H2 b (.tup [.str x, v])))
      rfl rfl sc_to.nd rfl rfl ⟨rfl, by decide, .inl m1⟩ ⟨rfl, by decide, .inl m2⟩ ⟨rfl, by decide, .inl m3⟩ takesC (fun W pn xe tk _ => ?_) (fun a oe cl dd pn hz hd => ?_)), ?_⟩
  · refine ⟨fun pins s' σ H' D I ⟨Ech, hW, h1, h2, h3⟩ => ?_⟩
    refine (pss_one (ps_ret (pe_tup (pa_cons pe_str (pa_cons (act W pn xe Ech _ _ tk hW) pa_nil))))).run pins s' σ H' D I ?_
    exact ⟨h1, h2, h3⟩
  · refine ⟨fun pins s' σ H' D I ⟨sl, x, v, tell, k⟩ => ?_⟩
    obtain ⟨vs, data⟩ := hd
    have r1 : L2H.RoomH 1 ((cxOf C8.CX0 X.prog X.w X.K X.mg X.base nTold "_law_told" (C8.fnScope sTold) g cdg X.A X.stack s H C8.E0).nox.suite a ((a, oe) :: pn)).A := ⟨(room.mono hj).dp, (room.mono hj).un⟩
    refine (pss_one (ps_ret (X := (cxOf C8.CX0 X.prog X.w X.K X.mg X.base nTold "_law_told" (C8.fnScope sTold) g cdg X.A X.stack s H C8.E0).nox.suite a ((a, oe) :: pn)) (pe_tup (pa_cons (pe_xp (n := "word") (p := (a, oe)) List.mem_cons_self ⟨vs, data⟩ (pv 1))
      (pa_cons (FlC.pe_callP (x := "_law_field") (X := (cxOf C8.CX0 X.prog X.w X.K X.mg X.base nTold "_law_told" (C8.fnScope sTold) g cdg X.A X.stack s H C8.E0).nox.suite a ((a, oe) :: pn)) (p := (a, oe)) (E := fun _ _ _ _ => False) F r1 ⟨rfl, vs, data⟩ List.mem_cons_self rfl mF kF bF (fun _ _ _ _ _ _ _ z => z.elim) (pa_cons (pv 1) pa_nil)) pa_nil))))).run pins s' σ H' D I ?_
    have tell' : TellsAt X.K H' oe.cls oe.dict x v := by rw [hz.1, hz.2]; exact tell
    obtain ⟨C, d, fs, ec, ed, xf, no, hd, hw, _⟩ := id tell'
    exact ⟨_, sl, rfl, C, d, fs, _, ec, ed, xf, no _ (by decide), hd, hw, _, sl, rfl, x, v, tell', fun H2 s2 => ⟨(by show 2 ≤ sizeLine; decide), fun b hb => k b H2 s2 hb⟩⟩
  · refine ⟨_, fun cl dd σ' H' e => ?_, rfl, hc, wish⟩
    obtain ⟨x, v, ⟨e1, e2⟩, e3⟩ := e
    refine ⟨true, e1, fun _ hl a na => ⟨?_, x, v, e2, e3⟩, fun z => Bool.noConfusion z⟩
    rw [List.getElem?_set_self (by rw [hl]; show 1 < 2; decide)]
end
end L2.FK
/-! Making an instance whose __init__ may raise, in a try's body (the wish may speak of the slots); C.f(..) of a def of an own class while an exception is handled. -/
namespace FlC
open PySem PySem.Spec PyProof.Rows L2 L2H LamX FlT
section
variable {X : Cx} {CX : CXT} {k : Nat} {f C : Addr} {fd : FuncData} {ps : List Str} {sp : Sp} {E : L2.St → XK} {x : Str} {p pos : Pos} {e : Expr} {es : List Expr} {t : TA}
def tMakeS (C : Addr) (sp : Sp) (E : L2.St → XK) (t : TA) : TE := fun σ H Q => t σ H fun vs H1 => ∀ x dx, H1 x = none → H1 dx = none → dx ≠ x → sp (.ref x :: vs) (upd (upd H1 dx (.own x)) x (.ins C dx [])) (fun v H2 => v = .non ∧ Q (.ref x) H2) (E σ)
theorem pe_makeS (M : Mk X.K C f) (F : FnOk X.prog X.w X.K X.mg X.base CX k f fd ps sp) (hr : Room (k + 1) X.A) (hg : Gl X x) (hm : X.mg x = some (.ref C)) (hb : Binds X.K fd ps []) (hx : ∀ σ, L2.PassesAt CX X σ (E σ))
    (ha : PA X (e :: es) t) (hdb : (x == ("__debug__" : Str)) = false := by decide) (he : starEach (e :: es) X.env = (false, eval e X.env) :: starEach es X.env := by rfl) (hpl : (backTo pos (starEach es X.env)).any (·.1) = false := by rfl) :
    PE X (.Call (.Name x p) (e :: es) [] pos) (tMakeS C sp E t) := by
  refine ⟨fun pins s σ H Q I h => ?_⟩
  refine wpAny_Call_Name_kw (ld_glob I hg hm ?_ hdb)
  refine PySem.W.callWith_K (h₀ := X.base) I.ok.mod.kin M.kp (thn (ha.run pos pins s σ H _ I h) fun us s1 ⟨vs, H1, I1, r, q⟩ => ⟨I1.kIn, ?_⟩) he hpl
  have hq := q (s1.heap.objs.size + 1) s1.heap.objs.size (I1.hok.fresh (Nat.le_succ _)) (I1.hok.fresh (Nat.le_refl _)) (Nat.ne_of_lt (Nat.lt_succ_self _))
  have I2 := Inv.made (C := C) I1
  have r2 : Vals (V.ref (s1.heap.objs.size + 1) :: vs) (Value.ref (s1.heap.objs.size + 1) :: us) := .cons rfl r
  have hl : (Value.ref (s1.heap.objs.size + 1) :: us ++ []).length = ps.length := by
    have e := r2.length
    rw [F.len _ _ _ _ hq] at e
    rw [List.append_nil]
    exact e.symm
  have b2 := hb _ (Value.ref (s1.heap.objs.size + 1) :: us) I2.kIn hl
  rw [List.append_nil] at b2
  refine wpAny_call (make_map (f := f) I1.kIn M.makes M.init (beq_iff_eq.mp M.fn) (codeAny_mono (F.run _ X.stack _ _ ⟨Value.ref (s1.heap.objs.size + 1) :: us, []⟩ (Value.ref (s1.heap.objs.size + 1) :: us) _ _ (E σ) (hr.make C us [])
    (I2.env0.make C us []) b2 r2 hq) fun r s' hq' => ?_))
  cases r with
  | error e => exact hx σ pins _ _ e s' I2 hq'
  | ok fl =>
    cases fl with
    | ret u =>
      obtain ⟨v, H', I3, rv, ev, q3⟩ := I2.after hq'
      subst ev
      exact ⟨rv, ⟨V.ref (s1.heap.objs.size + 1), H', I3, rfl, q3⟩⟩
    | next => exact False.elim hq'
    | brk => exact False.elim hq'
    | cont => exact False.elim hq'
end
section
variable {X : Cx} {CX : CXT} {x m : Str} {C f : Addr} {mc : Value} {k : Nat} {fd : FuncData} {ps : List Str} {sp : Sp} {E : L2.St → XK} {e : Expr} {es : List Expr} {t : TA} {np apos pos : Pos} {pl : Sem Bool}
/-- C.m(e, ..) with m a def of C, while an exception is handled -/
theorem pe_clsfnH (hg : Gl X x) (hm : X.mg x = some (.ref C)) (r : ClX.CRead X.K C mc) (at_ : PySem.W.findCls X.K (.ref C) mc m = some (.val (.ref f))) (F : FnH X.prog X.w X.K X.mg X.base CX k f fd ps sp) (room : RoomH k X.A) (hc : HotC X) (kp : PySem.W.keepIn X.K (.ref f) = true)
    (hb : Binds X.K fd ps []) (hx : ∀ σ, L2.PassesAt CX X σ (E σ)) (ha : PA X (e :: es) t) (hdb : (x == ("__debug__" : Str)) = false := by decide)
    (he : starEach (e :: es) X.env = (false, eval e X.env) :: starEach es X.env := by rfl) (hpl : (backTo pos (starEach es X.env)).any (·.1) = false := by rfl)
    (ht : eval (.Call (.Attribute (.Name x np) m apos) (e :: es) [] pos) X.env = (do
      let ov ← eval (.Name x np) X.env
      standAt apos.atName
      let (g, first) ← holding [ov] (getMethod ov m pl)
      callWith pos g first (backTo pos (starEach (e :: es) X.env)) (backToKw pos (keywordEach [] X.env))) := by rfl) :
    PE X (.Call (.Attribute (.Name x np) m apos) (e :: es) [] pos) (tCallS sp E t) := by
  refine ⟨fun pins s σ H Q I h => PySem.W.methodCall_KW (pl := pl) (ld_glob I hg hm ?_ hdb) ht⟩
  refine PySem.W.method_cls I.kIn r.ga (PySem.W.cls_value I.kIn r.rd at_ (by rfl) ?_)
  exact PySem.W.callWith_K (first := []) (h₀ := X.base) I.ok.mod.kin kp (thn (ha.run pos pins _ σ H _ (I.tok _) h) fun us t1 ⟨vs, H1, I1, rv, q⟩ => ⟨I1.kIn, run_fnH F room hc hb (hx σ) I1 rv q⟩) he hpl
end
end FlC
/-! check_lanes, check_width, check_place: all that they answer or raise. -/
namespace L2.FK
open PySem PySem.Spec PyProof.Rows L2.FL FlT
section
variable {P : Program} {w : World} {K : PySem.W.Frag} {mg : Str → Option Value} {base : Heap} {C BL BA BP TW : Addr}
def spCLa (BL : Addr) : Sp := fun vs H Q E => ∃ n : Int, vs = [.int n] ∧ (1 ≤ n ∧ n ≤ 6 → Q .non H) ∧ (¬ (1 ≤ n ∧ n ≤ 6) → Rz BL (wordF "BadLanes") H E)
theorem may_lanes (h : Has K mg "check_lanes" sCheckLanes ["lanes"]) (B : Bl mg) (mk : Mks P w K mg base 2 "BadLanes" BL ["self"] (spXI K "BadLanes")) : May P w K mg base 4 "check_lanes" ["lanes"] (spCLa BL) := by
  refine may_of h sc_cl (fun vs H Q E z => ?_) (fun f cdv A outer s H vs Q E hr z => ?_)
  · obtain ⟨n, rfl, _⟩ := z; rfl
  obtain ⟨n, rfl, q1, q2⟩ := z
  obtain ⟨t, ht⟩ := B.lanes
  refine ⟨_, pss_one (ps_if (pt_not (pt_chain op_le op_le pe_int (pv 0) (pe_glob (v := .int 6) rfl ht ⟨_, rfl⟩))) (pss_one (pr_word mk hr (by decide) rfl)) pss_nil), ?_⟩
  refine ⟨_, rfl, _, _, rfl, rfl, _, rfl, ?_⟩
  by_cases h1 : 1 ≤ n
  · rw [decide_eq_true h1]
    refine iteT ⟨_, _, rfl, rfl, _, rfl, ?_⟩
    by_cases h2 : n ≤ 6
    · rw [decide_eq_true h2]; exact iteF (q1 ⟨h1, h2⟩)
    · rw [decide_eq_false h2]; exact iteT (q2 fun z => h2 z.2)
  · rw [decide_eq_false h1]
    exact iteF ⟨_, rfl, iteT (q2 fun z => h1 z.1)⟩
def spCWa (K : PySem.W.Frag) (TW : Addr) : Sp := fun vs H Q E => ∃ (a : Addr) (ns : List Int), vs = [.ref a] ∧ SqL K H a (ns.map V.int) ∧ (ns.sum ≤ 2000 → Q .non H) ∧ (2000 < ns.sum → Rz TW (fldF "TooWide" "most" (.int 2000)) H E)
theorem may_width (h : Has K mg "check_width" sCheckWidth ["bounds"]) (B : Bl mg) (mk : Mks P w K mg base 2 "TooWide" TW ["self", "most"] (spXF K "TooWide" "most")) : May P w K mg base 4 "check_width" ["bounds"] (spCWa K TW) := by
  refine may_of h sc_cw (fun vs H Q E z => ?_) (fun f cdv A outer s H vs Q E hr z => ?_)
  · obtain ⟨a, ns, rfl, _⟩ := z; rfl
  obtain ⟨a, ns, rfl, hs, q1, q2⟩ := z
  obtain ⟨t, ht⟩ := B.goals
  refine ⟨_, pss_one (ps_if (pt_cmpR op_gt (pe_callB (cr_sum rfl) (by rfl) B.sum bt_sum (pa_cons (pv 0) pa_nil)) (pe_glob (v := .int 2000) rfl ht ⟨_, rfl⟩) (nomark _)) (pss_one (pr_fld mk hr (by decide) rfl (pa_cons (pe_glob (v := .int 2000) rfl ht ⟨_, rfl⟩) pa_nil))) pss_nil), ?_⟩
  refine ⟨_, rfl, a, ns, rfl, hs, _, _, rfl, rfl, _, rfl, ?_⟩
  by_cases c : ns.sum > 2000
  · rw [decide_eq_true c]; exact iteT (made_fld mk.1 (q2 c))
  · rw [decide_eq_false c]; exact iteF (q1 (by omega))
end
end L2.FK
/-! LaneMap made of anything: what it raises. -/
namespace L2.FK
open PySem PySem.Spec PyProof.Rows L2.FL FlT
/-- the number that a dict of counts has for a -/
def cntV (kvs : List (Key × V)) (a : Int) : Int := match valV kvs (Sum.inl a) with | some (.int c) => c | _ => 0
/-- the keys from st on -/
def keysFrom (st : Int) (kvs : List (Key × V)) : List Int := kvs.filterMap fun kv => match kv.1 with | Sum.inl a => if st ≤ a then some a else none | _ => none
section
variable {P : Program} {w : World} {K : PySem.W.Frag} {mg : Str → Option Value} {base : Heap} {C BL BG NB TW : Addr}
def spFWa : Sp := fun vs H Q _ => ∃ (d : Addr) (st : Int) (kvs : List (Key × V)), vs = [.ref d, .int st] ∧ H d = some (.dK kvs) ∧ 0 ≤ st ∧ (∀ kv ∈ kvs, ∃ a : Int, kv.1 = Sum.inl a) ∧ (∀ a : Int, ∀ v, valV kvs (Sum.inl a) = some v → ∃ c : Int, v = .int c) ∧ kvs.length ≤ 100000 ∧
  (∀ at' : Int, 0 ≤ at' → at' < st → (∀ b, 0 ≤ b → b < at' → cntV kvs b = 1) → cntV kvs at' ≠ 1 → ∀ H', Same H H' → Q (.int at') H') ∧
  ((∀ b, 0 ≤ b → b < st → cntV kvs b = 1) → (∀ m ∈ keysFrom st kvs, (∀ y ∈ keysFrom st kvs, m ≤ y) → ∀ H', Same H H' → Q (.int m) H') ∧ (keysFrom st kvs = [] → ∀ H', Same H H' → Q .non H'))
theorem ok_wrongA (h : Has K mg "first_wrong" sWrong ["counts", "start"]) (B : Bl mg) : C8.Cal P w K mg base 1 "first_wrong" spFWa [] := by
  refine cal_of h sc_fw (fun vs H Q E z => ?_) (fun f cdv A outer s H vs Q E hr z => ?_)
  · obtain ⟨d, st, kvs, rfl, _⟩ := z; rfl
  obtain ⟨d, st, kvs, rfl, hd, h0, hkey, hval, hz, q1, q2⟩ := z
  have nd := sc_fw.nd
  have hu := hu_of hr
  refine ⟨_, pss_cons (ps_set (i := 2) nd rfl (.inl rfl) pe_int)
    (pss_cons (ps_while PassesOwn.never (PW.pt (pw_and (pt_cmpR op_lt (pv 2) (pv 1) (nomark _)) (pw_and1 (pt_cmpR op_eq (pe_dget2 hu (pv 0) (pv 2) pe_int ⟨rfl, rfl, rfl, rfl⟩) pe_int (nomark _)))))
      (pss_one (ps_aug (i := 2) nd rfl (.inl rfl) pe_int ip_add)))
    (pss_cons (ps_if (pt_cmpR op_lt (pv 2) (pv 1) (nomark _)) (pss_one (ps_ret (pv 2))) pss_nil)
    (pss_one (ps_ret (pe_callBK (cr_minD rfl hu) (by rfl) B.min bt_min (pa_cons
      (pe_lock (pe_lc (own := [("twice", 3)]) (g := gName 3) rfl nd (pi_keys (pv 0)) (blkOk_by (own := [("twice", 3)]) (N := ["counts", "start", "at", "twice"]) (sc := C8.fnScope sWrong) (by decide +kernel))
        (fun _ _ _ _ _ => pg_name (i := 3) nd rfl (Or.inl rfl)) (fun _ _ _ _ _ => pts_one (pt_cmpR op_ge (pv 3) (pv 1) (nomark _))) (fun _ _ _ _ _ => pv 3))) pa_nil) (pk_cons pe_non pk_nil)))))), ?_⟩
  refine ⟨fun m σ H' => H' = H ∧ ∃ (at' : Int) (x : Option V), 0 ≤ at' ∧ at' ≤ st ∧ (∀ b, 0 ≤ b → b < at' → cntV kvs b = 1) ∧ m = (st - at').toNat ∧ σ = [some (.ref d), some (.int st), some (.int at'), x], ⟨st.toNat, rfl, 0, _, Int.le_refl _, h0, (fun b b0 b1 => absurd b1 (by omega)), by omega, rfl⟩, ?_⟩
  rintro m σ H1 ⟨rfl, at', x, h1, h2, h3, rfl, rfl⟩
  refine ⟨_, rfl, _, rfl, _, _, rfl, rfl, _, rfl, ?_⟩
  have gv : ∀ a : Int, ∃ c : Int, (valV kvs (Sum.inl a)).getD (.int 0) = .int c ∧ c = cntV kvs a := fun a => by
    unfold cntV
    cases e : valV kvs (Sum.inl a) with
    | none => exact ⟨0, rfl, rfl⟩
    | some v => obtain ⟨c, rfl⟩ := hval a v e; exact ⟨c, rfl, rfl⟩
  by_cases c : at' < st
  · rw [decide_eq_true c]
    obtain ⟨cv, gc, ec⟩ := gv at'
    refine iteT ⟨_, rfl, d, rfl, .inl ⟨kvs, .inl hd⟩, _, rfl, _, DGet.k (k := Sum.inl at') hd, (by rw [gc]; rfl), _, rfl, ?_⟩
    rw [gc]
    by_cases c1 : cv = 1
    · rw [decide_eq_true (congrArg V.int c1)]
      refine iteT ⟨fun σ' H' => H' = H1 ∧ ∃ x, σ' = [some (.ref d), some (.int st), some (.int (at' + 1)), x], ?_, ?_⟩
      · rintro σ' H' ⟨rfl, x, rfl⟩
        refine ⟨_, by omega, rfl, at' + 1, x, by omega, by omega, fun b b0 b1 => ?_, rfl, rfl⟩
        by_cases e : b = at'
        · rw [e, ← ec, c1]
        · exact h3 b b0 (by omega)
      · exact ⟨_, rfl, _, _, rfl, rfl, rfl, _, rfl⟩
    · rw [decide_eq_false (fun z => c1 (V.int.inj z))]
      refine iteF ⟨_, rfl, _, rfl, _, _, rfl, rfl, _, rfl, ?_⟩
      rw [decide_eq_true c]
      exact iteT ⟨_, rfl, q1 at' h1 c h3 (by rw [← ec]; exact c1) _ (Same.refl _)⟩
  · rw [decide_eq_false c]
    refine iteF ⟨_, rfl, _, rfl, _, _, rfl, rfl, _, rfl, ?_⟩
    rw [decide_eq_false c]
    obtain ⟨q3, q4⟩ := q2 fun b b0 b1 => h3 b b0 (by omega)
    refine iteF ⟨d, _, hd, trivial, fun od => ?_⟩
    refine ⟨_, rfl, d, od, rfl, .inl ⟨kvs, upd_same, fun D hD => ?_⟩⟩
    have nD : d ≠ D := fun e => by subst e; rw [upd_same] at hD; cases hD
    refine lc_it (walk_keys (d := d) (o := od) (kvs := kvs)) (fun i H' => H' = upd (upd H1 d (.frz od (.dK kvs))) D (.lst ((keysFrom st (kvs.take i)).map V.int))) (by rw [List.take_zero]; rfl) ?_ ?_ ?_
    · rintro i H' _ rfl
      rw [upd_ne nD, upd_same]
    · rintro i x' H2 H3 hi rfl ⟨rfl, k, v, hk, rfl⟩
      obtain ⟨a, ea⟩ := hkey _ (List.mem_of_getElem? hk)
      have ea : k = Sum.inl a := ea
      subst ea
      have et : keysFrom st (kvs.take (i + 1)) = keysFrom st (kvs.take i) ++ (if st ≤ a then [a] else []) := by
        unfold keysFrom
        rw [take_snoc hk, List.filterMap_append]
        congr 1
        by_cases z : st ≤ a <;> simp [z]
      have kl : (keysFrom st (kvs.take i)).length ≤ 100000 := by
        unfold keysFrom
        refine Nat.le_trans (List.length_filterMap_le _ _) ?_
        rw [List.length_take]; omega
      rw [et]
      refine ⟨rfl, _, rfl, _, rfl, _, _, rfl, rfl, _, rfl, ?_⟩
      by_cases z : st ≤ a
      · rw [decide_eq_true (show a ≥ st from z), if_pos z]
        refine iteT ⟨_, rfl, _, upd_same, snoc_le (by rw [List.length_map]; exact kl), ?_⟩
        rw [upd_upd, List.map_append]; rfl
      · rw [decide_eq_false (show ¬ a ≥ st by omega), if_neg z, List.append_nil]
        exact iteF rfl
    · rintro H2 rfl
      have hD' : H1 D = none := by rw [upd_ne nD.symm] at hD; exact hD
      rw [List.take_length]
      have sm : Same H1 (upd (upd (upd H1 d (.frz od (.dK kvs))) D (.lst ((keysFrom st kvs).map V.int))) d (.dK kvs)) := fun b o hb => by
        by_cases e : b = d
        · subst e; rw [upd_same]; exact hd ▸ hb
        · rw [upd_ne e, upd_ne (ne_of_none hb hD'), upd_ne e]; exact hb
      refine ⟨by rw [upd_ne nD, upd_same], D, keysFrom st kvs, .non, rfl, rfl, ?_, fun e => q4 e _ sm, fun m hm hmin => q3 m hm hmin _ sm⟩
      exact SqL.of (by rw [upd_ne nD.symm, upd_same])
/-! ### check_images -/
/-- the goal j of row i is no place, or the row i is too short at its end -/
def BadAt (ds : List Int) (rows : List (List Pl)) (i j : Nat) : Prop := ∃ row d, rows[i]? = some row ∧ ds[i]? = some d ∧ ((∃ p, row[j]? = some p ∧ isPl rows.length p = false) ∨ (j = row.length ∧ (row.length : Int) + d < 0))
def FstBad (ds : List Int) (rows : List (List Pl)) (i j : Nat) : Prop := BadAt ds rows i j ∧ ∀ i' j', (i' < i ∨ (i' = i ∧ j' < j)) → ¬ BadAt ds rows i' j'
/-- an exception of the class X at C whose field is a place, new -/
def RzP (X : Addr) (x fn : Str) (p : Pl) (H : Hp) (E : XK) : Prop := ∀ v H', Same H H' → PlAt H' v p → Rz X (fldF x fn v) H' E
theorem RzP.same {X : Addr} {x fn : Str} {p : Pl} {H H1 : Hp} {E : XK} (r : RzP X x fn p H E) (s : Same H H1) : RzP X x fn p H1 E := fun v H' s' e => r v H' (s.trans s') e
def spCIa (K : PySem.W.Frag) (BG : Addr) : Sp := fun vs H Q E => ∃ (a : Addr) (v : V) (ds : List Int) (rows : List (List Pl)), vs = [.ref a, v] ∧ SqL K H a (ds.map V.int) ∧ RowsAt H v rows ∧ rows.length = ds.length ∧
  (∀ i j, FstBad ds rows i j → RzP BG "BadGoal" "place" ((i : Int), (j : Int)) H E) ∧ ((∀ i j, ¬ BadAt ds rows i j) → ∀ H', Same H H' → Q .non H')
abbrev nCI : List Str := ["drifts", "rows", "lane", "row", "at", "image"]
theorem may_images (h : Has K mg "check_images" sImages ["drifts", "rows"]) (B : Bl mg) (c : C8.Cal P w K mg base 1 "is_place" spIP []) (mk : Mks P w K mg base 2 "BadGoal" BG ["self", "place"] (spXF K "BadGoal" "place")) : May P w K mg base 4 "check_images" ["drifts", "rows"] (spCIa K BG) := by
  refine may_of h sc_ci (fun vs H Q E z => ?_) (fun f cdv A outer s H vs Q E hr z => ?_)
  · obtain ⟨a, v, ds, rows, rfl, _⟩ := z; rfl
  obtain ⟨a, v, ds, rows, rfl, hA, ⟨b, ws, rfl, hb, hp⟩, hlen, q1, q2⟩ := z
  have hl := paired_len hp
  have nd := sc_ci.nd
  refine ⟨_, (pss_one (ps_for PassesOwn.leaving rfl (n_enum K rfl B.enumerate (pa_cons (pv 1) pa_nil)) (g_tup K (hp := (pgs_cons (pg_name (i := 2) nd rfl (.inl rfl)) (pgs_cons (pg_name (i := 3) nd rfl (.inl rfl)) pgs_nil))))
    (pss_cons (ps_for PassesOwn.leaving rfl (n_enum K rfl B.enumerate (pa_cons (pv 3) pa_nil)) (g_tup K (hp := (pgs_cons (pg_name (i := 4) nd rfl (.inl rfl)) (pgs_cons (pg_name (i := 5) nd rfl (.inl rfl)) pgs_nil))))
    (pss_one (ps_if (pt_not (pt_val (C8.pe_c c hr (by decide) rfl (pa_cons (pe_callB (c_len K) (by rfl) B.len bt_len (pa_cons (pv 1) pa_nil)) (pa_cons (pv 5) pa_nil))))) (pss_one (pr_fld mk hr (by decide) rfl (pa_cons (pe_tup (pa_cons (pv 2) (pa_cons (pv 4) pa_nil))) pa_nil))) pss_nil)))
    (pss_one (ps_if (pt_cmpR op_lt (pe_op op_add (pe_callB (c_len K) (by rfl) B.len bt_len (pa_cons (pv 3) pa_nil)) (pe_ix (x_list K) (pv 0) (pv 2) (fun _ _ => rfl))) pe_int (nomark _)) (pss_one (pr_fld mk hr (by decide) rfl (pa_cons (pe_tup (pa_cons (pv 2) (pa_cons (pe_callB (c_len K) (by rfl) B.len bt_len (pa_cons (pv 3) pa_nil)) pa_nil))) pa_nil))) pss_nil))))), ?_⟩
  -- what is known behind the goal j of row i
  refine ⟨_, rfl, b, _, rfl, SqL.of hb, for_it (walk_enum (K := K) (a := b) (xs := ws)) (fun i σ H' => Same H H' ∧ (∀ i' j', i' < i → ¬ BadAt ds rows i' j') ∧ ∃ x2 x3 x4 x5, σ = [some (.ref a), some (.ref b), x2, x3, x4, x5]) ⟨Same.refl _, (fun _ _ h => absurd h (Nat.not_lt_zero _)), _, _, _, _, rfl⟩ ?_ ?_ ?_⟩
  · rintro i σ H' _ ⟨s', _⟩; exact SqL.of (s' _ _ hb)
  · rintro i x σ H1 H2 hi ⟨s1, no, x2, x3, x4, x5, rfl⟩ ⟨T, y1, y2, rfl, hT, rfl, e1, e2⟩
    cases e1
    obtain ⟨row, hrow, r, us, rfl, hr', hu⟩ := paired_get hp i e2
    have s2 := s1.trans (same_new hT (.tup [.int (i : Nat), .ref r]))
    have hd : i < ds.length := by rw [← hlen, ← hl]; exact hi
    have ed := List.getElem?_eq_getElem hd
    refine ⟨T, _, rfl, .inl (.inl upd_same), rfl, _, _, rfl, _, _, rfl, rfl, ?_⟩
    refine ⟨_, rfl, r, us, rfl, SqL.of (s2 _ _ hr'), for_it (walk_enum (K := K) (a := r) (xs := us)) (fun j σ H' => Same H H' ∧ (∀ j' p, j' < j → row[j']? = some p → isPl rows.length p = true) ∧ ∃ x4 x5, σ = [some (.ref a), some (.ref b), some (.int (i : Nat)), some (.ref r), x4, x5]) ⟨s2, (fun _ _ h => absurd h (Nat.not_lt_zero _)), _, _, rfl⟩ ?_ ?_ ?_⟩
    · rintro j σ H' _ ⟨s', _⟩; exact SqL.of (s' _ _ hr')
    · rintro j x σ H3 H4 hj ⟨s3, nj, x4, x5, rfl⟩ ⟨T', z1, z2, rfl, hT', rfl, f1, f2⟩
      cases f1
      obtain ⟨p, hpp, hpt⟩ := paired_get hu j f2
      have s4 := s3.trans (same_new hT' (.tup [.int (j : Nat), z2]))
      refine ⟨T', _, rfl, .inl (.inl upd_same), rfl, _, _, rfl, _, _, rfl, rfl, ?_⟩
      refine ⟨_, rfl, b, _, rfl, .inl (SqL.of (s4 _ _ hb)), _, rfl, _, _, p, rfl, hpt.mono s4, ?_⟩
      rw [hl]
      cases hb' : isPl (rows.length : Nat) p with
      | true =>
        refine ⟨_, rfl, iteF ⟨s4, fun j' p' hj' hp' => ?_, _, _, rfl⟩⟩
        by_cases e : j' = j
        · subst e; rw [hpp] at hp'; cases hp'; exact hb'
        · exact nj j' p' (by omega) hp'
      | false =>
        refine ⟨_, rfl, iteT ⟨_, rfl, _, rfl, (by show 2 ≤ sizeLine; decide), fun t ht => made_fld mk.1 ?_⟩⟩
        refine q1 i j ⟨⟨row, _, hrow, ed, .inl ⟨p, hpp, hb'⟩⟩, fun i' j' h => ?_⟩ _ _ (s4.trans (same_new ht _)) ⟨t, rfl, upd_same⟩
        rcases h with h | ⟨rfl, h⟩
        · exact no i' j' h
        · rintro ⟨row', d', g1, g2, g⟩
          rw [hrow] at g1; cases g1
          rcases g with ⟨p', g3, g4⟩ | ⟨g3, _⟩
          · rw [nj j' p' h g3] at g4; cases g4
          · have := (List.getElem?_eq_some_iff.mp hpp).1; omega
    · rintro σ H3 ⟨s3, nj, x4, x5, rfl⟩
      have hul := paired_len hu
      refine ⟨_, rfl, r, us, rfl, .inl (SqL.of (s3 _ _ hr')), _, rfl, _, rfl, a, _, _, _, rfl, rfl, s3.seq hA, atI_nat (by rw [List.getElem?_map, ed]; rfl), _, _, rfl, rfl, _, _, rfl, rfl, _, rfl, ?_⟩
      have good : ∀ j', ¬ ∃ p, row[j']? = some p ∧ isPl rows.length p = false := fun j' h => by
        obtain ⟨p, g, e⟩ := h
        have := (List.getElem?_eq_some_iff.mp g).1
        rw [nj j' p (by omega) g] at e; cases e
      by_cases c0 : ((us.length : Nat) : Int) + ds[i] < 0
      · rw [decide_eq_true c0]
        refine iteT ⟨_, rfl, _, rfl, r, us, rfl, .inl (SqL.of (s3 _ _ hr')), (by show 2 ≤ sizeLine; decide), fun t ht => made_fld mk.1 ?_⟩
        refine q1 i us.length ⟨⟨row, _, hrow, ed, .inr ⟨hul, by rw [← hul]; exact c0⟩⟩, fun i' j' h => ?_⟩ _ _ (s3.trans (same_new ht _)) ⟨t, rfl, upd_same⟩
        rcases h with h | ⟨rfl, h⟩
        · exact no i' j' h
        · rintro ⟨row', d', g1, g2, g⟩
          rw [hrow] at g1; cases g1
          rcases g with g | ⟨g3, _⟩
          · exact good _ g
          · omega
      · rw [decide_eq_false c0]
        refine iteF ⟨s3, fun i' j' h => ?_, _, _, _, _, rfl⟩
        by_cases e : i' = i
        · subst e
          rintro ⟨row', d', g1, g2, g⟩
          rw [hrow] at g1; cases g1
          rw [ed] at g2; cases g2
          rcases g with g | ⟨_, g3⟩
          · exact good _ g
          · rw [hul] at c0; exact c0 g3
        · exact no i' j' (by omega)
  · rintro σ H1 ⟨s1, no, x2, x3, x4, x5, rfl⟩
    refine q2 (fun i j h => ?_) _ s1
    obtain ⟨row, d, g1, _⟩ := id h
    have := (List.getElem?_eq_some_iff.mp g1).1
    exact no i j (by omega) h
/-! ### check_bijective -/
/-- m is the wrong position of lane i -/
def Wr1 (ds : List Int) (rows : List (List Pl)) (i : Nat) (m : Int) : Prop := ∃ row d, rows[i]? = some row ∧ ds[i]? = some d ∧
  ((0 ≤ m ∧ m < (row.length : Int) + d ∧ (∀ b, 0 ≤ b → b < m → rows.flatten.count ((i : Int), b) = 1) ∧ rows.flatten.count ((i : Int), m) ≠ 1) ∨
   ((∀ b, 0 ≤ b → b < (row.length : Int) + d → rows.flatten.count ((i : Int), b) = 1) ∧ (row.length : Int) + d ≤ m ∧ rows.flatten.count ((i : Int), m) ≠ 0 ∧ ∀ y, (row.length : Int) + d ≤ y → rows.flatten.count ((i : Int), y) ≠ 0 → m ≤ y))
theorem wr1_uniq {ds : List Int} {rows : List (List Pl)} {i : Nat} {m m' : Int} (h : Wr1 ds rows i m) (h' : Wr1 ds rows i m') : m = m' := by
  obtain ⟨row, d, g1, g2, g⟩ := h
  obtain ⟨row', d', g1', g2', g'⟩ := h'
  rw [g1] at g1'; cases g1'
  rw [g2] at g2'; cases g2'
  rcases g with ⟨a0, a1, a2, a3⟩ | ⟨a0, a1, a2, a3⟩
  · rcases g' with ⟨b0, b1, b2, b3⟩ | ⟨b0, b1, b2, b3⟩
    · have t1 : ¬ m < m' := fun z => a3 (b2 m a0 z)
      have t2 : ¬ m' < m := fun z => b3 (a2 m' b0 z)
      omega
    · exact absurd (b0 m a0 a1) a3
  · rcases g' with ⟨b0, b1, b2, b3⟩ | ⟨b0, b1, b2, b3⟩
    · exact absurd (a0 m' b0 b1) b3
    · have t1 := a3 m' b1 b2
      have t2 := b3 m a1 a2
      omega
theorem isPl_of' {n : Nat} {p : Pl} (h : isPl (n : Nat) p = true) : isP n p := by
  unfold isPl at h
  rw [Bool.and_eq_true, Bool.and_eq_true] at h
  exact ⟨of_decide_eq_true h.1, of_decide_eq_true h.2.1, of_decide_eq_true h.2.2⟩
def spCBa (K : PySem.W.Frag) (NB : Addr) : Sp := fun vs H Q E => ∃ (a : Addr) (v : V) (ds : List Int) (rows : List (List Pl)), vs = [.ref a, v] ∧ SqL K H a (ds.map V.int) ∧ RowsAt H v rows ∧ rows.length = ds.length ∧ rows.length ≤ 6 ∧ rows.flatten.length ≤ 2000 ∧
  (∀ p ∈ rows.flatten, isP rows.length p) ∧ (∀ (i : Nat) row d, rows[i]? = some row → ds[i]? = some d → 0 ≤ (row.length : Int) + d) ∧
  (∀ i m, Wr1 ds rows i m → (∀ i' < i, ∀ m', ¬ Wr1 ds rows i' m') → RzP NB "NotBijective" "place" ((i : Int), m) H E) ∧ ((∀ i m, ¬ Wr1 ds rows i m) → ∀ H', Same H H' → Q .non H')
theorem may_bij (h : Has K mg "check_bijective" sBijective ["drifts", "rows"]) (B : Bl mg) (c : C8.Cal P w K mg base 1 "first_wrong" spFWa []) (mk : Mks P w K mg base 2 "NotBijective" NB ["self", "place"] (spXF K "NotBijective" "place")) : May P w K mg base 4 "check_bijective" ["drifts", "rows"] (spCBa K NB) := by
  refine may_of h sc_cb (fun vs H Q E z => ?_) (fun f cdv A outer s H vs Q E hr z => ?_)
  · obtain ⟨a, v, ds, rows, rfl, _⟩ := z; rfl
  obtain ⟨a, v, ds, rows, rfl, hA, ⟨b, ws, rfl, hb, hp⟩, hlen, n6, wid, pl, st, q1, q2⟩ := z
  have hl := paired_len hp
  have nd := sc_cb.nd
  have hu := hu_of hr
  have hn6 : rows.length ≤ 6 := n6
  refine ⟨_, pss_cons (ps_setLc (i := 2) (own := [("row", 3)]) (g := gName 3) (tt := tYes) rfl nd rfl rfl (sw_true rfl rfl rfl (by decide +kernel)) (pi_list (pv 1))
      (blkOk_by (own := [("row", 3)]) (N := ["drifts", "rows", "reached", "row", "lane", "at", "counts", "wrong"]) (sc := C8.fnScope sBijective) (by decide +kernel))
      (fun _ _ _ _ _ => pg_name (i := 3) nd rfl (Or.inl rfl)) (fun _ _ _ _ _ => pts_nil) (fun _ _ _ _ _ => pe_dnewK))
    (pss_cons (ps_for PassesOwn.leaving rfl (pi_list (pv 1)) (pg_name (i := 3) nd rfl (.inl rfl))
      (pss_one (ps_for PassesOwn.leaving rfl (pi_list (pv 3)) (pg_tup rfl (pgs_cons (pg_name (i := 4) nd rfl (.inl rfl)) (pgs_cons (pg_name (i := 5) nd rfl (.inl rfl)) pgs_nil)))
        (pss_cons (ps_set (i := 6) nd rfl (.inl rfl) (pe_ix ix_list (pv 2) (pv 4) (fun _ _ => rfl)))
        (pss_one (ps_dput hu (pv 6) (pv 5) (pe_op op_add (pe_dget2 hu (pv 6) (pv 5) pe_int ⟨rfl, rfl, rfl, rfl⟩) pe_int) rfl))))))
    (pss_one (ps_for PassesOwn.leaving rfl (pi_enum rfl B.enumerate (pa_cons (pv 1) pa_nil)) (pg_tup rfl (pgs_cons (pg_name (i := 4) nd rfl (.inl rfl)) (pgs_cons (pg_name (i := 3) nd rfl (.inl rfl)) pgs_nil)))
      (pss_cons (ps_set (i := 7) nd rfl (.inl rfl) (C8.pe_c c hr (by decide) rfl (pa_cons (pe_ix ix_list (pv 2) (pv 4) (fun _ _ => rfl))
        (pa_cons (pe_op op_add (pe_callB call_len_seq (by rfl) B.len bt_len (pa_cons (pv 3) pa_nil)) (pe_ix ix_list (pv 0) (pv 4) (fun _ _ => rfl))) pa_nil))))
      (pss_one (ps_if (pt_cmpR op_notN (pv 7) pe_non (nomark _)) (pss_one (pr_fld mk hr (by decide) rfl (pa_cons (pe_tup (pa_cons (pv 4) (pa_cons (pv 7) pa_nil))) pa_nil))) pss_nil)))))), ?_⟩
  -- the dicts
  refine ⟨_, rfl, b, rfl, ⟨_, SqL.of hb⟩, fun R hR => ?_⟩
  refine lc_it (walk_list (K := K) (a := b) (xs := ws)) (fun i H' => Same H (del R H') ∧ ∃ ad : List Addr, ad.length = i ∧ ad.Nodup ∧ (∀ d ∈ ad, H d = none ∧ d ≠ R ∧ H' d = some (.dK [])) ∧ H' R = some (.lst (ad.map V.ref))) ?_ ?_ ?_ ?_
  · exact ⟨by rw [del_upd]; exact same_del (Same.refl _) hR, [], rfl, List.nodup_nil, (fun d hd => by cases hd), upd_same⟩
  · rintro i H' _ ⟨s', _⟩; exact SqL.of (del_same _ _ (s' _ _ hb))
  · rintro i x H1 H2 hi ⟨s', ad, ha, hnd, had, hR'⟩ ⟨rfl, hx⟩
    refine ⟨rfl, fun p hp' => ⟨_, by rw [upd_ne (ne_of_none hR' hp')]; exact hR', snoc_le (by rw [List.length_map]; omega), ?_⟩⟩
    have nR : p ≠ R := (ne_of_none hR' hp').symm
    have hpH : H p = none := by
      cases e : H p with
      | none => rfl
      | some o => have := del_same _ _ (s' _ _ e); rw [hp'] at this; cases this
    refine ⟨by rw [del_upd, del_upd_ne nR]; exact s'.trans (same_new (none_del hp') _), ad ++ [p], by rw [List.length_append, ha]; rfl, ?_, ?_, by rw [upd_same, List.map_append]; rfl⟩
    · refine List.nodup_append.mpr ⟨hnd, by simp, fun x hx y hy => ?_⟩
      rw [List.mem_singleton.mp hy]
      exact fun e => by have := (had x hx).2.2; rw [e, hp'] at this; cases this
    · intro d hd
      rcases List.mem_append.mp hd with hd | hd
      · obtain ⟨z1, z2, z3⟩ := had d hd
        exact ⟨z1, z2, by rw [upd_ne z2, upd_ne (ne_of_none z3 hp')]; exact z3⟩
      · rw [List.mem_singleton.mp hd]
        exact ⟨hpH, nR, by rw [upd_ne nR, upd_same]⟩
  rintro H1 ⟨s1, ad, hal, hnd, had, hR1⟩
  have s1 : Same H H1 := s1.trans del_same
  have hadn : ∀ d ∈ ad, H d = none ∧ d ≠ R := fun d hd => ⟨(had d hd).1, (had d hd).2.1⟩
  have hal : ad.length = rows.length := hal.trans hl
  -- a count
  have bump : ∀ (H2 : Hp) (G : List Pl) (l a' : Int) (d : Addr) (kvs : List (Key × V)), Same H H2 → H2 R = some (.lst (ad.map V.ref)) → Cnts H2 ad G → 0 ≤ l → ad[l.toNat]? = some d → H2 d = some (.dK kvs) →
      Same H (upd H2 d (.dK (putK kvs (Sum.inl a') (.int ((G.count (l, a') : Nat) + 1))))) ∧ (upd H2 d (.dK (putK kvs (Sum.inl a') (.int ((G.count (l, a') : Nat) + 1))))) R = some (.lst (ad.map V.ref)) ∧
      Cnts (upd H2 d (.dK (putK kvs (Sum.inl a') (.int ((G.count (l, a') : Nat) + 1))))) ad (G ++ [(l, a')]) := fun H2 G l a' d kvs s2 hR2 hc h0 hd hk => by
    have hm := List.mem_of_getElem? hd
    refine ⟨same_put s2 (hadn d hm).1 _, by rw [upd_ne (hadn d hm).2.symm]; exact hR2, fun l2 d2 e2 => ?_⟩
    have el : ((l.toNat : Nat) : Int) = l := by omega
    by_cases e : l2 = l.toNat
    · subst e
      rw [hd] at e2; cases e2
      obtain ⟨kvs', hk', hc'⟩ := hc _ _ hd
      rw [hk] at hk'; cases hk'
      rw [el] at hc' ⊢
      exact ⟨_, upd_same, hc'.put⟩
    · have nd2 : d2 ≠ d := fun z => by
        subst z
        exact e (nd_ix hnd e2 hd)
      obtain ⟨kvs', hk', hc'⟩ := hc _ _ e2
      exact ⟨kvs', by rw [upd_ne nd2]; exact hk', hc'.other (by omega)⟩
  -- for row in rows
  refine ⟨_, rfl, b, rfl, ⟨_, SqL.of (s1 _ _ hb)⟩, for_it (walk_list (K := K) (a := b) (xs := ws)) (fun i σ H' => Same H H' ∧ H' R = some (.lst (ad.map V.ref)) ∧ Cnts H' ad (rows.take i).flatten ∧ ∃ x3 x4 x5 x6 x7, σ = [some (.ref a), some (.ref b), some (.ref R), x3, x4, x5, x6, x7])
    ⟨s1, hR1, fun l d e => ⟨[], (had d (List.mem_of_getElem? e)).2.2, Cnt.nil _⟩, _, _, _, _, _, rfl⟩ ?_ ?_ ?_⟩
  · rintro i σ H' _ ⟨s', _⟩; exact SqL.of (s' _ _ hb)
  · rintro i x σ H2 H3 hi ⟨s2, hR2, hc2, x3, x4, x5, x6, x7, rfl⟩ ⟨rfl, hx⟩
    obtain ⟨row, hrow, r, us, rfl, hr', hus⟩ := paired_get hp i hx
    refine ⟨_, rfl, r, rfl, ⟨_, SqL.of (s2 _ _ hr')⟩, for_it (walk_list (K := K) (a := r) (xs := us)) (fun j σ H' => Same H H' ∧ H' R = some (.lst (ad.map V.ref)) ∧ Cnts H' ad ((rows.take i).flatten ++ row.take j) ∧ ∃ x4 x5 x6 x7, σ = [some (.ref a), some (.ref b), some (.ref R), some (.ref r), x4, x5, x6, x7])
      ⟨s2, hR2, by rw [List.take_zero, List.append_nil]; exact hc2, _, _, _, _, rfl⟩ ?_ ?_ ?_⟩
    · rintro j σ H' _ ⟨s', _⟩; exact SqL.of (s' _ _ hr')
    · rintro j x σ H4 H5 hj ⟨s4, hR4, hc4, x4, x5, x6, x7, rfl⟩ ⟨rfl, hx'⟩
      obtain ⟨⟨l, a'⟩, hpp, t, rfl, ht⟩ := paired_get hus j hx'
      have hpl := pl _ (Okm.in_row (ds := ds) hrow hpp)
      have h0 : 0 ≤ l := hpl.1
      have h1 : l < (rows.length : Nat) := hpl.2.1
      have hli : l.toNat < ad.length := by rw [hal]; omega
      obtain ⟨kvs, hk, hcn⟩ := hc4 _ _ (List.getElem?_eq_getElem hli)
      have el : ((l.toNat : Nat) : Int) = l := by omega
      rw [el] at hcn
      have hlen : kvs.length < sizeLine := by
        have z1 := hcn.len
        have z2 := len_take_flatten rows i
        have z3 := wid
        have z4 : row.length ≤ rows.flatten.length := by
          have := len_take_flatten rows (i + 1)
          rw [flatten_take hrow, List.length_append] at this; omega
        rw [List.length_append, List.length_take] at z1
        exact snoc_le (by omega)
      refine ⟨t, _, rfl, .inl (.inl (s4 _ _ ht)), rfl, _, _, rfl, _, _, rfl, rfl, ?_⟩
      refine ⟨_, rfl, _, rfl, R, _, _, _, rfl, rfl, SqL.of hR4, at_of (j := l.toNat) el.symm (by rw [List.getElem?_map, List.getElem?_eq_getElem hli]; rfl), ?_⟩
      refine ⟨_, rfl, ad[l.toNat], rfl, .inl ⟨kvs, .inl hk⟩, _, rfl, _, DGet.k (k := Sum.inl a') hk, _, _, hcn.get a', rfl, _, rfl, _, rfl, _, _, rfl, DPut.k (k := Sum.inl a') hk hlen, ?_⟩
      obtain ⟨z1, z2, z3⟩ := bump _ _ l a' _ kvs s4 hR4 hc4 h0 (List.getElem?_eq_getElem hli) hk
      refine ⟨z1, z2, ?_, _, _, _, _, rfl⟩
      rw [take_snoc hpp, ← List.append_assoc]
      exact z3
    · rintro σ H4 ⟨s4, hR4, hc4, x4, x5, x6, x7, rfl⟩
      rw [paired_len hus, List.take_length, ← flatten_take hrow] at hc4
      exact ⟨s4, hR4, hc4, _, _, _, _, _, rfl⟩
  -- for lane, row in enumerate(rows)
  rintro σ H2 ⟨s2, hR2, hc2, x3, x4, x5, x6, x7, rfl⟩
  rw [hl, List.take_length] at hc2
  refine ⟨_, rfl, b, _, rfl, SqL.of (s2 _ _ hb), for_it (walk_enum (K := K) (a := b) (xs := ws)) (fun i σ H' => Same H2 H' ∧ (∀ i' m, i' < i → ¬ Wr1 ds rows i' m) ∧ ∃ x3 x4 x5 x6 x7, σ = [some (.ref a), some (.ref b), some (.ref R), x3, x4, x5, x6, x7]) ⟨Same.refl _, (fun _ _ h => absurd h (Nat.not_lt_zero _)), _, _, _, _, _, rfl⟩ ?_ ?_ ?_⟩
  · rintro i σ H' _ ⟨s', _⟩; exact SqL.of (s' _ _ (s2 _ _ hb))
  · rintro i x σ H3 H4 hi ⟨s3, no, x3, x4, x5, x6, x7, rfl⟩ ⟨T, y1, y2, rfl, hT, rfl, e1, e2⟩
    cases e1
    obtain ⟨row, hrow, r, us, rfl, hr', hus⟩ := paired_get hp i e2
    have s4 := s3.trans (same_new hT (.tup [.int (i : Nat), .ref r]))
    have hir : i < rows.length := hl ▸ hi
    have hid : i < ds.length := hlen ▸ hir
    have hia : i < ad.length := hal ▸ hir
    obtain ⟨kvs, hk, hcn⟩ := hc2 _ _ (List.getElem?_eq_getElem hia)
    refine ⟨T, _, rfl, .inl (.inl upd_same), rfl, _, _, rfl, _, _, rfl, rfl, ?_⟩
    refine ⟨_, rfl, _, rfl, R, _, _, _, rfl, rfl, SqL.of (s4 _ _ hR2), atI_nat (by rw [List.getElem?_map, List.getElem?_eq_getElem hia]; rfl), _, rfl, r, us, rfl, .inl (SqL.of (s4 _ _ (s2 _ _ hr'))), _, rfl, _, rfl, a, _, _, _, rfl, rfl, (s2.trans s4).seq hA,
      atI_nat (by rw [List.getElem?_map, List.getElem?_eq_getElem hid]; rfl), _, _, rfl, rfl, ?_⟩
    have est : ((us.length : Nat) : Int) + ds[i] = (row.length : Int) + ds[i] := by rw [paired_len hus]
    have ed := List.getElem?_eq_getElem hid
    have cn (m : Int) : cntV kvs m = ((rows.flatten.count ((i : Int), m) : Nat) : Int) := by
      unfold cntV
      rw [hcn.val m]
      split
      · rename_i c' hc'
        split at hc'
        · cases hc'
        · cases hc'; rfl
      · rename_i hc'
        split at hc'
        · rename_i z; rw [z]; rfl
        · exact absurd rfl (hc' _)
    have kf (m : Int) : m ∈ keysFrom (((us.length : Nat) : Int) + ds[i]) kvs ↔ (row.length : Int) + ds[i] ≤ m ∧ rows.flatten.count ((i : Int), m) ≠ 0 := by
      rw [est]
      unfold keysFrom
      rw [List.mem_filterMap]
      constructor
      · rintro ⟨kv, hkv, e⟩
        obtain ⟨a0, f1, f2⟩ := hcn.key kv hkv
        rw [f1] at e
        dsimp only at e
        split at e
        · cases e
          rename_i z
          exact ⟨z, fun c0 => List.count_eq_zero.mp c0 f2⟩
        · cases e
      · rintro ⟨z, c0⟩
        have hv := hcn.val m
        rw [if_neg c0] at hv
        obtain ⟨kv, hkv, e⟩ := List.mem_map.mp (valV_in hv)
        exact ⟨kv, hkv, by rw [e]; dsimp only; rw [if_pos z]⟩
    have hst := st i row _ hrow ed
    have one (m : Int) : (cntV kvs m = 1) ↔ rows.flatten.count ((i : Int), m) = 1 := by rw [cn m]; omega
    refine ⟨ad[i], _, kvs, rfl, s4 _ _ hk, by rw [est]; exact hst, (fun kv hkv => let ⟨a0, f1, _⟩ := hcn.key kv hkv; ⟨a0, f1⟩), (fun a0 v hv => ?_), ?_, fun m m0 m1 all nm H5 s5 => ?_, fun all => ⟨fun m hm hmin H5 s5 => ?_, fun hno H5 s5 => ?_⟩⟩
    · rw [hcn.val a0] at hv
      split at hv
      · cases hv
      · cases hv; exact ⟨_, rfl⟩
    · have := hcn.len; omega
    · refine ⟨_, rfl, rfl, _, rfl, iteT ⟨_, rfl, _, rfl, (by show 2 ≤ sizeLine; decide), fun t ht => made_fld mk.1 ?_⟩⟩
      refine q1 i m ⟨row, _, hrow, ed, .inl ⟨m0, by rw [← est]; exact m1, fun b' b0 b1 => (one b').mp (all b' b0 b1), fun z => nm ((one m).mpr z)⟩⟩ (fun i' h m' => no i' m' h) _ _ (((s2.trans s4).trans s5).trans (same_new ht _)) ⟨t, rfl, upd_same⟩
    · refine ⟨_, rfl, rfl, _, rfl, iteT ⟨_, rfl, _, rfl, (by show 2 ≤ sizeLine; decide), fun t ht => made_fld mk.1 ?_⟩⟩
      refine q1 i m ⟨row, _, hrow, ed, .inr ⟨fun b' b0 b1 => (one b').mp (all b' b0 (by rw [est]; exact b1)), ((kf m).mp hm).1, ((kf m).mp hm).2, fun y y1 y2 => hmin y ((kf y).mpr ⟨y1, y2⟩)⟩⟩ (fun i' h m' => no i' m' h) _ _ (((s2.trans s4).trans s5).trans (same_new ht _)) ⟨t, rfl, upd_same⟩
    · refine ⟨_, rfl, rfl, _, rfl, iteF ⟨s4.trans s5, fun i' m h => ?_, _, _, _, _, _, rfl⟩⟩
      by_cases e : i' = i
      · subst e
        rintro ⟨row', d', g1, g2, g⟩
        rw [hrow] at g1; cases g1
        rw [ed] at g2; cases g2
        rcases g with ⟨z0, z1, z2, z3⟩ | ⟨_, z1, z2, _⟩
        · exact z3 ((one m).mp (all m z0 (by rw [est]; exact z1)))
        · have := (kf m).mpr ⟨z1, z2⟩
          rw [hno] at this; cases this
      · exact no i' m (by omega)
  · rintro σ H3 ⟨s3, no, _⟩
    refine q2 (fun i m h => ?_) _ (s2.trans s3)
    obtain ⟨row, d, g1, _⟩ := id h
    have := (List.getElem?_eq_some_iff.mp g1).1
    exact no i m (by rw [hl]; exact this) h
/-! ### copied_rows -/
/-- the rows that are meant for n lanes -/
def Shp (n : Nat) (rows rows' : List (List Pl)) : Prop := (rows.length = n ∧ rows' = rows) ∨ (rows = [] ∧ rows' = List.replicate n [])
abbrev nCR : List Str := ["lanes", "goals", "lane", "row"]
def spCRa (BL : Addr) : Sp := fun vs H Q E => ∃ (n : Nat) (v : V) (rows : List (List Pl)), vs = [.int n, v] ∧ 1 ≤ n ∧ n ≤ 6 ∧ RowsAt H v rows ∧ (rows.length ≠ 0 → rows.length ≠ n → Rz BL (wordF "BadLanes") H E) ∧
  ∀ rows', Shp n rows rows' → ∀ r H', Same H H' → RowsAt H' r rows' → Q r H'
theorem sc_cra : FnScope nCR ["lanes", "goals"] (C8.fnScope sCopied) := C8.fnScope_by (by decide +kernel)
theorem may_copied (h : Has K mg "copied_rows" sCopied ["lanes", "goals"]) (B : Bl mg) (mk : Mks P w K mg base 2 "BadLanes" BL ["self"] (spXI K "BadLanes")) : May P w K mg base 4 "copied_rows" ["lanes", "goals"] (spCRa BL) := by
  refine may_of h sc_cra (fun vs H Q E z => ?_) (fun f cdv A outer s H vs Q E hr z => ?_)
  · obtain ⟨n, v, rows, rfl, _⟩ := z; rfl
  obtain ⟨n, v, rows, rfl, h1, h6, ⟨a, vs, rfl, ha, hp⟩, q1, q2⟩ := z
  have nd := sc_cra.nd
  have hl := paired_len hp
  refine ⟨_, (pss_cons (ps_if (pt_cmpR op_eq (pe_callB (c_len K) (by rfl) B.len bt_len (pa_cons (pv 1) pa_nil)) pe_int (nomark _)) (pss_one (ps_ret (pe_lc (own := [("lane", 2)]) (g := (gName 2)) (tt := tYes) rfl nd (pi_range1 rfl B.range (pa_cons (pv 0) pa_nil)) (blkOk_by (own := [("lane", 2)]) (N := nCR) (sc := C8.fnScope sCopied) (by decide +kernel)) (fun _ _ _ _ _ => (pg_name (i := 2) nd rfl (.inl rfl))) (fun _ _ _ _ _ => pts_nil) (fun _ _ _ _ _ => (pe_lst pa_nil))))) pss_nil)
    (pss_cons (ps_if (pt_cmpR op_ne (pe_callB (c_len K) (by rfl) B.len bt_len (pa_cons (pv 1) pa_nil)) (pv 0) (nomark _)) (pss_one (pr_word mk hr (by decide) rfl)) pss_nil)
    (pss_one (ps_ret (pe_lc (own := [("row", 3)]) (g := (gName 3)) (tt := tYes) rfl nd (n_list K (pv 1)) (blkOk_by (own := [("row", 3)]) (N := nCR) (sc := C8.fnScope sCopied) (by decide +kernel)) (fun _ _ _ _ _ => (pg_name (i := 3) nd rfl (.inl rfl))) (fun _ _ _ _ _ => pts_nil) (fun _ _ _ _ _ => (pe_callTy (c_list K) (by rfl) B.list bt_list (pa_cons (pv 3) pa_nil)))))))), ?_⟩
  refine ⟨_, rfl, a, _, rfl, .inl (SqL.of ha), rfl, _, rfl, ?_⟩
  by_cases c0 : vs.length = 0
  · rw [decide_eq_true (by rw [c0]; rfl)]
    have er : rows = [] := List.length_eq_zero_iff.mp (by omega)
    refine iteT ⟨_, rfl, _, rfl, by omega, by omega, fun D hD => ?_⟩
    rw [Int.toNat_natCast]
    refine lc_it (walk_range (lo := 0) (n := n)) (fun i H' => Same H (del D H') ∧ ∃ us, H' D = some (.lst us) ∧ Paired (RowAt (del D H')) us (List.replicate i [])) ?_ ?_ ?_ ?_
    · exact ⟨by rw [del_upd]; exact same_del (Same.refl _) hD, [], upd_same, .nil⟩
    · rintro i H' _ _; trivial
    · rintro i x H2 H3 hi ⟨s', us, hu, hp'⟩ ⟨rfl, rfl⟩
      refine ⟨rfl, (by show 0 ≤ sizeLine; decide), fun l hl' => ?_⟩
      have nl : l ≠ D := (ne_of_none hu hl').symm
      refine ⟨us, by rw [upd_ne nl.symm]; exact hu, snoc_le (by rw [paired_len hp', List.length_replicate]; omega), ?_⟩
      have ed : del D (upd (upd H3 l (.lst [])) D (.lst (us ++ [.ref l]))) = upd (del D H3) l (.lst []) := by rw [del_upd, del_upd_ne nl]
      have sn : Same (del D H3) (upd (del D H3) l (.lst [])) := same_new (none_del hl') _
      refine ⟨by rw [ed]; exact s'.trans sn, _, upd_same, ?_⟩
      rw [ed, List.replicate_succ']
      exact paired_snoc (rows_mono sn hp') ⟨l, [], rfl, upd_same, .nil⟩
    · rintro H2 ⟨s', us, hu, hp'⟩
      exact q2 _ (.inr ⟨er, rfl⟩) _ _ (s'.trans del_same) ⟨D, us, rfl, hu, rows_mono del_same hp'⟩
  · rw [decide_eq_false (by intro e; injection e with e; omega)]
    refine iteF ⟨_, rfl, a, _, rfl, .inl (SqL.of ha), _, rfl, rfl, _, rfl, ?_⟩
    by_cases c1 : rows.length = n
    · refine iteNS (by rw [hl, c1]) ?_
      refine ⟨_, rfl, a, rfl, ⟨_, SqL.of ha⟩, fun D hD => ?_⟩
      refine lc_it (walk_list (K := K) (a := a) (xs := vs)) (fun i H' => Same H (del D H') ∧ ∃ us, H' D = some (.lst us) ∧ Paired (RowAt (del D H')) us (rows.take i)) ?_ ?_ ?_ ?_
      · exact ⟨by rw [del_upd]; exact same_del (Same.refl _) hD, [], upd_same, by rw [List.take_zero]; exact .nil⟩
      · rintro i H' _ ⟨s', _⟩
        exact SqL.of (del_same _ _ (s' _ _ ha))
      · rintro i x H1 H2 hi ⟨s', us, hu, hp'⟩ ⟨rfl, hx⟩
        obtain ⟨row, hrow, b, ws, rfl, hb, hw⟩ := paired_get hp i hx
        refine ⟨rfl, _, rfl, b, _, rfl, .inl (SqL.of (del_same _ _ (s' _ _ hb))), fun l hl' => ?_⟩
        have nl : l ≠ D := (ne_of_none hu hl').symm
        refine ⟨us, by rw [upd_ne nl.symm]; exact hu, snoc_le (by rw [paired_len hp', List.length_take]; omega), ?_⟩
        have ed : del D (upd (upd H2 l (.lst ws)) D (.lst (us ++ [.ref l]))) = upd (del D H2) l (.lst ws) := by rw [del_upd, del_upd_ne nl]
        have sn : Same (del D H2) (upd (del D H2) l (.lst ws)) := same_new (none_del hl') _
        refine ⟨by rw [ed]; exact s'.trans sn, _, upd_same, ?_⟩
        rw [ed, take_snoc hrow]
        exact paired_snoc (rows_mono sn hp') ⟨l, ws, rfl, upd_same, pls_mono (s'.trans sn) hw⟩
      · rintro H' ⟨s', us, hu, hp'⟩
        rw [hl, List.take_length] at hp'
        exact q2 _ (.inl ⟨c1, rfl⟩) _ _ (s'.trans del_same) ⟨D, us, rfl, hu, rows_mono del_same hp'⟩
    · refine ite2 (fun _ => q1 (by omega) c1) (fun c => absurd (by
        rw [hl]
        rw [decide_eq_false (fun e => c1 (by injection e with e; omega))]; rfl) c)
/-! ### __init__ of what is no map -/
/-- why it is no map, and what is raised -/
def InE (BL TW BG NB : Addr) (ds : List Int) (rows : List (List Pl)) (H : Hp) (E : XK) : Prop :=
  (¬ (1 ≤ ds.length ∧ ds.length ≤ 6) ∧ Rz BL (wordF "BadLanes") H E) ∨ ((1 ≤ ds.length ∧ ds.length ≤ 6) ∧ ((rows.length ≠ 0 ∧ rows.length ≠ ds.length ∧ Rz BL (wordF "BadLanes") H E) ∨ ∃ rows', Shp ds.length rows rows' ∧
    ((2000 < rows'.flatten.length ∧ Rz TW (fldF "TooWide" "most" (.int 2000)) H E) ∨ (rows'.flatten.length ≤ 2000 ∧
      ((∃ i j, FstBad ds rows' i j ∧ RzP BG "BadGoal" "place" ((i : Int), (j : Int)) H E) ∨ ((∀ i j, ¬ BadAt ds rows' i j) ∧ ∃ i m, Wr1 ds rows' i m ∧ (∀ i' < i, ∀ m', ¬ Wr1 ds rows' i' m') ∧ RzP NB "NotBijective" "place" ((i : Int), m) H E))))))
def spInE (C BL TW BG NB : Addr) : Sp := fun vs H Q E => ∃ (p dx a : Addr) (v : V) (ds : List Int) (rows : List (List Pl)), vs = [.ref p, .ref a, v] ∧ H p = some (.ins C dx []) ∧ H a = some (.lst (ds.map V.int)) ∧ RowsAt H v rows ∧ InE BL TW BG NB ds rows H E
theorem may_initE {f : Addr} {fd : FuncData} (F : C8.Fun K "__init__" "LaneMap.__init__" sInit f fd) (B : Bl mg) (mCL : May P w K mg base 4 "check_lanes" ["lanes"] (spCLa BL)) (mCR : May P w K mg base 4 "copied_rows" ["lanes", "goals"] (spCRa BL))
    (mCW : May P w K mg base 4 "check_width" ["bounds"] (spCWa K TW)) (mCI : May P w K mg base 4 "check_images" ["drifts", "rows"] (spCIa K BG)) (mCB : May P w K mg base 4 "check_bijective" ["drifts", "rows"] (spCBa K NB)) :
    FnOk P w K mg base (L2N.CX P w) 5 f fd ["self", "drifts", "goals"] (spInE C BL TW BG NB) := by
  obtain ⟨oc, od, dV, kV, doc, pm, an, cdv, ct, osl, rfl, lk, code⟩ := F.ex
  refine fn_of lk code sc_in (fun vs H Q E z => ?_) (fun A outer s H vs Q E hr z => ?_)
  · obtain ⟨p, dx, a, v, ds, rows, rfl, _⟩ := z; rfl
  obtain ⟨p, dx, a, v, ds, rows, rfl, hp, ha, hR, q⟩ := z
  have nd := sc_in.nd
  have tk := @L2N.takes_of
  refine ⟨_, pss_cons (ps_expr (pe_may mCL hr (by decide) (L2N.takes_of (E := E) rfl rfl rfl rfl) (fun _ _ _ _ z => z) rfl (pa_cons (pe_callB call_len_seq (by rfl) B.len bt_len (pa_cons (pv 1) pa_nil)) pa_nil)))
    (pss_cons (ps_set (i := 3) nd rfl (.inl rfl) (pe_may mCR hr (by decide) (L2N.takes_of (E := E) rfl rfl rfl rfl) (fun _ _ _ _ z => z) rfl (pa_cons (pe_callB call_len_seq (by rfl) B.len bt_len (pa_cons (pv 1) pa_nil)) (pa_cons (pv 2) pa_nil))))
    (pss_cons (ps_expr (pe_may mCW hr (by decide) (L2N.takes_of (E := E) rfl rfl rfl rfl) (fun _ _ _ _ z => z) rfl (pa_cons (pe_lc (own := [("row", 4)]) (g := gName 4) (tt := tYes) rfl nd (pi_list (pv 3)) (blkOk_by (own := [("row", 4)]) (N := nInit) (sc := C8.fnScope sInit) (by decide +kernel))
      (fun _ _ _ _ _ => pg_name (i := 4) nd rfl (Or.inl rfl)) (fun _ _ _ _ _ => pts_nil) (fun _ _ _ _ _ => pe_callB (c_len K) (by rfl) B.len bt_len (pa_cons (pv 4) pa_nil))) pa_nil)))
    (pss_cons (ps_expr (pe_may mCI hr (by decide) (L2N.takes_of (E := E) rfl rfl rfl rfl) (fun _ _ _ _ z => z) rfl (pa_cons (pv 1) (pa_cons (pv 3) pa_nil))))
    (pss_cons (ps_expr (pe_may mCB hr (by decide) (L2N.takes_of (E := E) rfl rfl rfl rfl) (fun _ _ _ _ z => z) rfl (pa_cons (pv 1) (pa_cons (pv 3) pa_nil))))
    (pss_cons ps_never (pss_cons ps_never (pss_cons ps_never (pss_one ps_never)))))))), ?_⟩
  have hll : (ds.map V.int).length = ds.length := List.length_map _
  refine ⟨_, rfl, a, _, rfl, .inl (SqL.of ha), _, rfl, ?_, ?_⟩
  · rw [hll]
    rintro ⟨n1, n6⟩
    have n1' : 1 ≤ ds.length := by omega
    have n6' : ds.length ≤ 6 := by omega
    rcases q with ⟨no, _⟩ | ⟨_, q⟩
    · exact absurd ⟨n1', n6'⟩ no
    refine ⟨_, rfl, a, _, rfl, .inl (SqL.of ha), _, rfl, ds.length, v, rows, by rw [hll]; rfl, n1', n6', hR, fun c1 c2 => ?_, fun rows' hs r H1 s1 hR1 => ?_⟩
    · rcases q with ⟨_, _, q⟩ | ⟨rows', hs, _⟩
      · exact q
      · rcases hs with ⟨e, _⟩ | ⟨e, _⟩
        · exact absurd e c2
        · rw [e] at c1; exact absurd rfl c1
    rcases q with ⟨c1, c2, _⟩ | ⟨rows2, hs2, q⟩
    · rcases hs with ⟨e, _⟩ | ⟨e, _⟩
      · exact absurd e c2
      · rw [e] at c1; exact absurd rfl c1
    have er : rows2 = rows' := by
      rcases hs with ⟨e, f1⟩ | ⟨e, f1⟩
      · rcases hs2 with ⟨_, f2⟩ | ⟨e2, _⟩
        · rw [f1, f2]
        · rw [e2] at e; simp at e; omega
      · rcases hs2 with ⟨e2, _⟩ | ⟨_, f2⟩
        · rw [e] at e2; simp at e2; omega
        · rw [f1, f2]
    subst er
    have hlen : rows2.length = ds.length := by
      rcases hs2 with ⟨e, f1⟩ | ⟨_, f1⟩
      · rw [f1]; exact e
      · rw [f1, List.length_replicate]
    obtain ⟨r, ws, rfl, hr1, hp1⟩ := hR1
    have hwl := paired_len hp1
    refine ⟨_, rfl, r, rfl, ⟨_, SqL.of hr1⟩, fun D hD => ?_⟩
    refine lc_it (walk_list (K := K) (a := r) (xs := ws)) (fun i H' => H' = upd H1 D (.lst ((rows2.take i).map fun x => V.int (x.length : Nat)))) (by rw [List.take_zero]; rfl) ?_ ?_ ?_
    · rintro i H' _ rfl; exact SqL.of (by rw [upd_ne (ne_of_none hr1 hD)]; exact hr1)
    · rintro i x H2 H3 hi rfl ⟨rfl, hx⟩
      obtain ⟨row, hrow, b, us, rfl, hb, hus⟩ := paired_get hp1 i hx
      refine ⟨rfl, _, rfl, b, us, rfl, .inl (SqL.of (by rw [upd_ne (ne_of_none hb hD)]; exact hb)), _, upd_same, snoc_le (by rw [List.length_map, List.length_take]; omega), ?_⟩
      rw [upd_upd, take_snoc hrow, List.map_append, paired_len hus]; rfl
    rintro H2 rfl
    rw [hwl, List.take_length]
    have e2 : (rows2.map fun x => V.int (x.length : Nat)) = (rows2.map fun x => ((x.length : Nat) : Int)).map V.int := by rw [List.map_map]; rfl
    rw [e2]
    have s12 := same_new hD (.lst ((rows2.map fun x => ((x.length : Nat) : Int)).map V.int))
    have gD : upd H1 D (.lst ((rows2.map fun x => ((x.length : Nat) : Int)).map V.int)) D = _ := upd_same
    generalize upd H1 D (.lst ((rows2.map fun x => ((x.length : Nat) : Int)).map V.int)) = H2 at s12 gD
    have s2 : Same H H2 := s1.trans s12
    refine ⟨D, _, rfl, SqL.of gD, ?_, ?_⟩
    · rw [sum_lens]
      intro w1
      rcases q with ⟨w2, _⟩ | ⟨w2, q⟩
      · omega
      have hR2 : RowsAt H2 (.ref r) rows2 := RowsAt.mono s12 ⟨r, ws, rfl, hr1, hp1⟩
      refine ⟨_, rfl, _, rfl, a, _, ds, rows2, rfl, SqL.of (s2 _ _ ha), hR2, hlen, fun i j fb => ?_, fun nob H3 s3 => ?_⟩
      · rcases q with ⟨i', j', fb', q⟩ | ⟨nob, _⟩
        · have eij : i' = i ∧ j' = j := by
            have t1 : ¬ (i' < i ∨ (i' = i ∧ j' < j)) := fun z => fb.2 i' j' z fb'.1
            have t2 : ¬ (i < i' ∨ (i = i' ∧ j < j')) := fun z => fb'.2 i j z fb.1
            omega
          rw [← eij.1, ← eij.2]
          exact q.same s2
        · exact absurd fb.1 (nob i j)
      rcases q with ⟨i', j', fb', _⟩ | ⟨_, i, m, hw, hf, q⟩
      · exact absurd fb'.1 (nob i' j')
      have pls : ∀ x ∈ rows2.flatten, isP rows2.length x := fun x hx => by
        obtain ⟨row, hrow, hxr⟩ := List.mem_flatten.mp hx
        obtain ⟨i1, hi1, e1⟩ := List.mem_iff_getElem.mp hrow
        obtain ⟨j1, hj1, e3⟩ := List.mem_iff_getElem.mp hxr
        cases hb' : isPl rows2.length x with
        | true => exact isPl_of' hb'
        | false =>
          refine absurd ⟨row, ds[i1]'(hlen ▸ hi1), List.getElem?_eq_some_iff.mpr ⟨hi1, e1⟩, List.getElem?_eq_getElem _, .inl ⟨x, List.getElem?_eq_some_iff.mpr ⟨hj1, e3⟩, hb'⟩⟩ (nob i1 j1)
      have sts : ∀ (i : Nat) row d, rows2[i]? = some row → ds[i]? = some d → 0 ≤ (row.length : Int) + d := fun i1 row d g1 g2 => by
        by_cases c : 0 ≤ (row.length : Int) + d
        · exact c
        · exact absurd ⟨row, d, g1, g2, .inr ⟨rfl, by omega⟩⟩ (nob i1 row.length)
      refine ⟨_, rfl, _, rfl, a, _, ds, rows2, rfl, SqL.of (s3 _ _ (s2 _ _ ha)), hR2.mono s3, hlen, by omega, w2, pls, sts, fun i1 m1 hw1 hf1 => ?_, fun now => absurd hw (now i m)⟩
      have ei : i1 = i := by
        have t1 : ¬ i1 < i := fun z => hf i1 z m1 hw1
        have t2 : ¬ i < i1 := fun z => hf1 i z m hw
        omega
      subst ei
      rw [wr1_uniq hw1 hw]
      exact q.same (s2.trans s3)
    · rw [sum_lens]
      intro w1
      rcases q with ⟨_, q⟩ | ⟨w2, _⟩
      · exact q.same s2
      · omega
  · rw [hll]
    intro no
    rcases q with ⟨_, q⟩ | ⟨yes, _⟩
    · exact q
    · exact absurd ⟨by omega, by omega⟩ no
end
end L2.FK
/-! parse_map, which may raise; an exception raised from None in an except suite. -/
namespace L2.FK
open PySem PySem.Spec PyProof.Rows L2.FL FlT LamX TL
/-! ### the hot __init__s -/
/-- the class at C is made by its name x while an exception is handled -/
def MksH (P : Program) (w : World) (K : PySem.W.Frag) (mg : Str → Option Value) (base : Heap) (k : Nat) (x : Str) (C : Addr) (ps : List Str) (sp : Sp) : Prop := Exc1 K C ∧ mg x = some (.ref C) ∧ ∃ g fd, PySem.W.findIn K (.ref C) "__init__" = some (some (.ref g)) ∧ PySem.W.typeIn K (.ref g) = some (.type "function") ∧ L2H.FnH P w K mg base C8.CX0 k g fd ps sp ∧ Binds K fd ps []
/-- a def that may raise exceptions of any context -/
def MayC (P : Program) (w : World) (K : PySem.W.Frag) (mg : Str → Option Value) (base : Heap) (k : Nat) (x : Str) (ps : List Str) (sp : Sp) : Prop := ∃ f fd, FnOk P w K mg base (L2.CX P w) k f fd ps sp ∧ mg x = some (.ref f) ∧ PySem.W.keepIn K (.ref f) = true ∧ Binds K fd ps []
section
variable {P : Program} {w : World} {K : PySem.W.Frag} {mg : Str → Option Value} {base : Heap} {C : Addr}
theorem ok_leiH {f : Addr} {fd : FuncData} (F : C8.Fun K "__init__" "LaneError.__init__" sLEI f fd) : L2H.FnH P w K mg base C8.CX0 1 f fd ["self"] (spLEI K) := by
  obtain ⟨oc, od, dV, kV, doc, pm, an, cdv, ct, osl, rfl, lk, code⟩ := F.ex
  refine L2H.fn_ofH lk code sc_lei (fun vs H Q E z => ?_) (fun A outer s H vs Q E p hot hr z => ?_)
  · obtain ⟨a, C, rfl, _⟩ := z; rfl
  obtain ⟨a, C, rfl, x, ha, q⟩ := z
  refine ⟨_, pss_one (ps_ost (pv 0) pe_str), ?_⟩
  exact ⟨_, rfl, a, C, rfl, x.oex, x.no _ (by decide), .inl ⟨ha, fun dx n ne => q dx n ne⟩⟩
theorem ok_i_BadTextH {f g LE : Addr} {fd fd2 : FuncData} {mc : Value} (F : C8.Fun K "__init__" "BadText.__init__" s_i_BadText f fd) (G : C8.Fun K "__init__" "LaneError.__init__" sLEI g fd2) (bG : Binds K fd2 ["self"] []) (kG : PySem.W.keepIn K (.ref g) = true)
    (m1 : mg "LaneError" = some (.ref LE)) (r : ClX.CRead K LE mc) (at_ : PySem.W.findCls K (.ref LE) mc "__init__" = some (.val (.ref g))) : L2H.FnH P w K mg base C8.CX0 2 f fd ["self", "at"] (spXF K "BadText" "at") := by
  obtain ⟨oc, od, dV, kV, doc, pm, an, cdv, ct, osl, rfl, lk, code⟩ := F.ex
  refine L2H.fn_ofH lk code sc_i_BadText (fun vs H Q E z => ?_) (fun A outer s H vs Q E p hot hr z => ?_)
  · obtain ⟨a, C, v, rfl, _⟩ := z; rfl
  obtain ⟨a, C, v, rfl, x, ha, q⟩ := z
  refine ⟨_, pss_cons (ps_expr (FlC.pe_clsfnH (x := "LaneError") (E := fun _ _ _ _ => False) rfl m1 r at_ (ok_leiH G) hr ⟨p, ⟨hot.1, hot.2⟩, List.mem_cons_self⟩ kG bG (fun _ _ _ _ _ _ _ z => z.elim) (pa_cons (pv 0) pa_nil))) (pss_cons (ps_ost (pv 0) (pv 1)) (pss_one (ps_ost (pv 0) pe_str))), ?_⟩
  refine ⟨_, rfl, a, C, rfl, x, ha, fun dx n ne => ?_⟩
  have e1 : upd (upd H dx (exd dx [("word", .str "LaneError")])) a (exo a C (some dx)) dx = some (exd dx [("word", .str "LaneError")]) := by rw [upd_ne ne, upd_same]
  have e2 : ∀ o, upd (upd (upd H dx (exd dx [("word", .str "LaneError")])) a (exo a C (some dx))) dx o a = some (exo a C (some dx)) := fun o => by rw [upd_ne ne.symm, upd_same]
  refine ⟨_, rfl, _, rfl, a, C, rfl, x.oex, x.no _ (by decide), .inr ⟨dx, _, upd_same, e1, (by show 1 ≤ 900; decide), ?_⟩⟩
  exact ⟨_, rfl, a, C, rfl, x.oex, x.no _ (by decide), .inr ⟨dx, _, e2 _, upd_same, (by show 2 ≤ 900; decide), q dx n ne⟩⟩
/-- raise X(v) from None, while an exception is handled -/
theorem pr_fldHN {X : Cx} {j jj : Nat} {x fn : Str} {C : Addr} {E : XK} {e : Expr} {te : TA} {np pos pos' cpos : Pos} (K : PySem.W.Frag) (mk : MksH X.prog X.w K X.mg X.base 2 x C ["self", fn] (spXF K x fn)) (hr : L2H.RoomH j X.A) (hk : 3 ≤ j) (hot : L2H.HotC X) (hg : Gl X x) (he : PA X [e] te) (tk : L2.Takes X (fun cls d _ H => E cls d H)) (hK : X.K = K := by rfl)
    (hdb : (x == ("__debug__" : Str)) = false := by decide) (hs : starEach [e] X.env = (false, eval e X.env) :: starEach [] X.env := by rfl) (hpl : (backTo pos (starEach [] X.env)).any (·.1) = false := by rfl) :
    PS X (.Raise (some (.Call (.Name x np) [e] [] pos)) (some (.Constant .none jj cpos)) pos') (fun _ σ H => tMkO C (spXF K x fn) [] te σ H fun cls d H' => E cls d H') := by
  subst hK
  obtain ⟨X1, mO, g, fdI, iC, tI, FI, bI⟩ := mk
  exact L2H.ps_raiseHN hot tk (L2H.pmk5_oexH X1.oex iC tI FI (hr.mono hk) hot bI (fun _ _ _ _ _ _ _ z => z.elim) hg mO he hdb hs hpl)
theorem made_fldH {C : Addr} {x fn : Str} {v : V} {H : Hp} {Q : XK} (X : Exc1 K C) (q : Rz C (fldF x fn v) H Q) : [v].length ≤ 1000 ∧ ∀ a, H a = none → spXF K x fn (.ref a :: ([v] ++ [])) (upd H a (exo a C none))
    (fun v H2 => v = .non ∧ ∃ (d : Addr) (fs : List (Str × V)), H2 a = some (exo a C (some d)) ∧ H2 d = some (exd d fs) ∧ H d = none ∧ Q (.ref C) (some d) (upd (L2.del H2 a) d (.xd fs))) (fun _ _ _ => False) := made_fld X q
theorem pe_mayC {X : Cx} {j k : Nat} {x : Str} {ps : List Str} {sp : Sp} {e : Expr} {es : List Expr} {t : TA} {p pos : Pos} {E : XK} {W : WX} (h : May X.prog X.w X.K X.mg X.base k x ps sp) (hr : Room j X.A) (hk : k ≤ j) (tk : L2.Takes X W) (hW : ∀ cls d σ H, E cls d H → W cls d σ H) (hg : Gl X x) (ha : PA X (e :: es) t)
    (hdb : (x == ("__debug__" : Str)) = false := by decide) (he : starEach (e :: es) X.env = (false, eval e X.env) :: starEach es X.env := by rfl) (hpl : (backTo pos (starEach es X.env)).any (·.1) = false := by rfl) :
    PE X (.Call (.Name x p) (e :: es) [] pos) (tCall sp [] E t) := by
  obtain ⟨f, fd, F, a, b, c⟩ := h
  exact pe_call F (hr.mono hk) hg a b c .nil (L2N.passes_call (FlC.takes_n tk) hW) ha hdb he hpl
theorem mayC_of {x : Str} {st : Stmt} {N ps : List Str} {k : Nat} {sp : Sp} (h : Has K mg x st ps) (S : FnScope N ps (C8.fnScope st)) (len : ∀ vs H Q E, sp vs H Q E → vs.length = ps.length)
    (hbody : ∀ (f : Addr) (cdv : Value) (A : Around) (outer : List Env) (s : Shared) (H : Hp) (vs : List V) (Q : VK) (E : XK), Room k (A.deeper (envOfC x (C8.fnScope st) s.heap.objs.size f cdv)) → sp vs H Q E →
      ∃ t, PSs (cxOf (L2.CX P w) P w K mg base N x (C8.fnScope st) f cdv A outer s H E) (C8.fnBody st) t ∧ t { nx := fun _ H' => Q .non H', rt := Q } (start N vs) H) : MayC P w K mg base (k + 1) x ps sp := by
  obtain ⟨f, fd, F, b⟩ := h
  obtain ⟨oc, od, dV, kV, doc, pm, an, cdv, ct, osl, rfl, lk, code⟩ := F.fn.ex
  exact ⟨f, _, fn_of lk code S len fun A outer s H vs Q E hr hs => hbody f cdv A outer s H vs Q E hr hs, F.mgf, F.kp, b⟩
end
end L2.FK
/-! parse_map: a map, or BadText. -/
namespace L2.FK
open PySem PySem.Spec PyProof.Rows L2.FL FlT LamX TL
theorem nodup_ones : ∀ {l : List Pl}, (∀ p ∈ l, l.count p = 1) → l.Nodup
  | [], _ => List.nodup_nil
  | x :: l, h => by
    have hx : x ∉ l := fun hm => by
      have := h x (List.mem_cons_self ..)
      rw [List.count_cons_self] at this
      exact List.count_eq_zero.mp (by omega) hm
    refine List.nodup_cons.mpr ⟨hx, nodup_ones fun p hp => ?_⟩
    have := h p (List.mem_cons_of_mem _ hp)
    rw [List.count_cons_of_ne (show x ≠ p from fun e => hx (by rw [e]; exact hp))] at this
    exact this
theorem okm_none {ds : List Int} {rows : List (List Pl)} (lo : 1 ≤ ds.length) (hi : ds.length ≤ 6) (hlen : rows.length = ds.length) (wid : rows.flatten.length ≤ 2000) (nob : ∀ i j, ¬ BadAt ds rows i j) (now : ∀ i m, ¬ Wr1 ds rows i m) : Okm ds rows := by
  have pls : ∀ x ∈ rows.flatten, isP rows.length x := fun x hx => by
    obtain ⟨row, hrow, hxr⟩ := List.mem_flatten.mp hx
    obtain ⟨i1, hi1, e1⟩ := List.mem_iff_getElem.mp hrow
    obtain ⟨j1, hj1, e3⟩ := List.mem_iff_getElem.mp hxr
    cases hb' : isPl rows.length x with
    | true => exact isPl_of' hb'
    | false => exact absurd ⟨row, ds[i1]'(hlen ▸ hi1), List.getElem?_eq_some_iff.mpr ⟨hi1, e1⟩, List.getElem?_eq_getElem _, .inl ⟨x, List.getElem?_eq_some_iff.mpr ⟨hj1, e3⟩, hb'⟩⟩ (nob i1 j1)
  have sts : ∀ (i : Nat) row d, rows[i]? = some row → ds[i]? = some d → 0 ≤ (row.length : Int) + d := fun i1 row d g1 g2 => by
    by_cases c : 0 ≤ (row.length : Int) + d
    · exact c
    · exact absurd ⟨row, d, g1, g2, .inr ⟨rfl, by omega⟩⟩ (nob i1 row.length)
  have one (i : Nat) (row : List Pl) (d : Int) (g1 : rows[i]? = some row) (g2 : ds[i]? = some d) : ∀ k : Nat, (k : Int) < (row.length : Int) + d → rows.flatten.count ((i : Int), (k : Int)) = 1 := by
    intro k
    induction k using Nat.strongRecOn with
    | _ k ih =>
      intro hk
      by_cases c : rows.flatten.count ((i : Int), (k : Int)) = 1
      · exact c
      · refine absurd ⟨row, d, g1, g2, .inl ⟨by omega, hk, fun b b0 b1 => ?_, c⟩⟩ (now i k)
        have z := ih b.toNat (by omega) (by omega)
        rw [show ((b.toNat : Nat) : Int) = b by omega] at z
        exact z
  have non (i : Nat) (row : List Pl) (d : Int) (g1 : rows[i]? = some row) (g2 : ds[i]? = some d) : ∀ k : Nat, rows.flatten.count ((i : Int), (row.length : Int) + d + (k : Int)) = 0 := by
    intro k
    induction k using Nat.strongRecOn with
    | _ k ih =>
      by_cases c : rows.flatten.count ((i : Int), (row.length : Int) + d + (k : Int)) = 0
      · exact c
      · refine absurd ⟨row, d, g1, g2, .inr ⟨fun b b0 b1 => ?_, by omega, c, fun y y1 y2 => ?_⟩⟩ (now i ((row.length : Int) + d + (k : Int)))
        · have z := one i row d g1 g2 b.toNat (by omega)
          rw [show ((b.toNat : Nat) : Int) = b by omega] at z
          exact z
        · by_cases c2 : (row.length : Int) + d + (k : Int) ≤ y
          · exact c2
          · have z := ih (y - ((row.length : Int) + d)).toNat (by omega)
            rw [show (row.length : Int) + d + (((y - ((row.length : Int) + d)).toNat : Nat) : Int) = y by omega] at z
            exact absurd z y2
  have mem : ∀ p : Pl, p ∈ rows.flatten ↔ ∃ (i : Nat) (row : List Pl) (d : Int), p.1 = i ∧ rows[i]? = some row ∧ ds[i]? = some d ∧ 0 ≤ p.2 ∧ p.2 < (row.length : Int) + d := fun p => by
    constructor
    · intro hp
      obtain ⟨i, j, e, hi'⟩ := isP_nat (pls p hp)
      subst e
      have g1 := List.getElem?_eq_getElem hi'
      have g2 := List.getElem?_eq_getElem (hlen ▸ hi' : i < ds.length)
      refine ⟨i, _, _, rfl, g1, g2, by show (0 : Int) ≤ j; omega, ?_⟩
      show (j : Int) < _
      by_cases c : (j : Int) < (rows[i].length : Int) + ds[i]'(hlen ▸ hi')
      · exact c
      · have z := non i _ _ g1 g2 ((j : Int) - ((rows[i].length : Int) + ds[i]'(hlen ▸ hi'))).toNat
        have s0 := sts i _ _ g1 g2
        rw [show (rows[i].length : Int) + ds[i]'(hlen ▸ hi') + ((((j : Int) - ((rows[i].length : Int) + ds[i]'(hlen ▸ hi'))).toNat : Nat) : Int) = j by omega] at z
        exact absurd hp (List.count_eq_zero.mp z)
    · rintro ⟨i, row, d, e, g1, g2, p0, p1⟩
      have z := one i row d g1 g2 p.2.toNat (by omega)
      rw [show ((p.2.toNat : Nat) : Int) = p.2 by omega, ← e] at z
      by_cases c : p ∈ rows.flatten
      · exact c
      · rw [List.count_eq_zero.mpr c] at z; cases z
  refine ⟨hlen, lo, hi, wid, sts, mem, nodup_ones fun p hp => ?_⟩
  obtain ⟨i, row, d, e, g1, g2, p0, p1⟩ := (mem p).mp hp
  have z := one i row d g1 g2 p.2.toNat (by omega)
  rw [show ((p.2.toNat : Nat) : Int) = p.2 by omega, ← e] at z
  exact z
theorem least {p : Nat → Prop} (h : ∃ n, p n) : ∃ n, p n ∧ ∀ m < n, ¬ p m := by
  classical
  obtain ⟨n, hn⟩ := h
  induction n using Nat.strongRecOn with
  | _ n ih =>
    by_cases c : ∃ m, m < n ∧ p m
    · obtain ⟨m, hm, hp⟩ := c; exact ih m hm hp
    · exact ⟨n, hn, fun m hm hp => c ⟨m, hm, hp⟩⟩
/-- what is no map has a reason -/
theorem ine_of {BL TW BG NB : Addr} {ds : List Int} {rows : List (List Pl)} {H : Hp} {E : XK} (lo : 1 ≤ ds.length) (hl : rows.length = ds.length) (no : ¬ Okm ds rows) (r : ∀ X ∈ [BL, TW, BG, NB], ∀ fs H', Same H H' → Rz X fs H' E) : InE BL TW BG NB ds rows H E := by
  classical
  by_cases h6 : ds.length ≤ 6
  · refine .inr ⟨⟨lo, h6⟩, .inr ⟨rows, .inl ⟨hl, rfl⟩, ?_⟩⟩
    by_cases w : rows.flatten.length ≤ 2000
    · refine .inr ⟨w, ?_⟩
      by_cases b : ∃ i j, BadAt ds rows i j
      · obtain ⟨i, hi, mi⟩ := least b
        obtain ⟨j, hj, mj⟩ := least hi
        refine .inl ⟨i, j, ⟨hj, fun i' j' h => ?_⟩, fun v H' s' _ => r BG (by simp) _ _ s'⟩
        rcases h with h | ⟨rfl, h⟩
        · exact fun z => mi i' h ⟨j', z⟩
        · exact mj j' h
      · have nob : ∀ i j, ¬ BadAt ds rows i j := fun i j z => b ⟨i, j, z⟩
        refine .inr ⟨nob, ?_⟩
        by_cases c : ∃ i m, Wr1 ds rows i m
        · obtain ⟨i, ⟨m, hm⟩, mi⟩ := least c
          exact ⟨i, m, hm, fun i' h m' z => mi i' h ⟨m', z⟩, fun v H' s' _ => r NB (by simp) _ _ s'⟩
        · exact absurd (okm_none lo h6 hl w nob fun i m z => c ⟨i, m, z⟩) no
    · exact .inl ⟨by omega, r TW (by simp) _ _ (Same.refl _)⟩
  · exact .inl ⟨by omega, r BL (by simp) _ _ (Same.refl _)⟩
abbrev dsX (xs : List (Int × List Pl)) : List Int := xs.map (·.1)
abbrev rwX (xs : List (Int × List Pl)) : List (List Pl) := xs.map (·.2)
theorem bar_ne (t : Str) : Txt.split t (Str.ofString " | ") ≠ [] := fun e => by
  have z := split_spl t (Str.ofString " | ") (by rw [tl_bar]; simp) (kind_ok (by decide +kernel))
  rw [tl_bar, e] at z
  exact (spl_backG (S := [32, 124, 32]) (by simp) _ (tl t) [] (Nat.le_refl _)).2 z.symm
theorem AllRd.pos {t : Str} {xs : List (Int × List Pl)} (h : AllRd (Txt.split t (Str.ofString " | ")) xs) : 1 ≤ xs.length := by
  rw [h.1]
  cases e : Txt.split t (Str.ofString " | ") with
  | nil => exact absurd e (bar_ne t)
  | cons a b => simp
theorem AllRd.parts {ps : List Str} : ∀ {xs : List (Int × List Pl)}, AllRd ps xs → List.zipWith partS (dsX xs) (rwX xs) = ps := by
  induction ps with
  | nil => intro xs h; rw [List.length_eq_zero_iff.mp h.1]; rfl
  | cons p ps ih =>
    intro xs h
    cases xs with
    | nil => cases h.1
    | cons x xs =>
      have z := h.2 0 p x rfl rfl
      show partS x.1 x.2 :: List.zipWith partS (dsX xs) (rwX xs) = p :: ps
      rw [← z.1, ih ⟨Nat.succ.inj h.1, fun i q y hq hy => h.2 (i + 1) q y hq hy⟩]
theorem AllRd.text {t : Str} {xs : List (Int × List Pl)} (h : AllRd (Txt.split t (Str.ofString " | ")) xs) : mapS (dsX xs) (rwX xs) = t := by
  unfold mapS
  rw [h.parts]
  exact ext_tl (by rw [tl_join, tl_bar]; exact bar_back t)
theorem AllRd.nat {ps : List Str} {xs : List (Int × List Pl)} (h : AllRd ps xs) : ∀ row ∈ rwX xs, ∀ p ∈ row, 0 ≤ p.1 ∧ 0 ≤ p.2 := fun row hr p hp => by
  obtain ⟨x, hx, rfl⟩ := List.mem_map.mp hr
  obtain ⟨i, hi, e⟩ := List.mem_iff_getElem.mp hx
  have z := h.2 i (ps[i]'(by rw [← h.1]; exact hi)) x (List.getElem?_eq_getElem _) (List.getElem?_eq_some_iff.mpr ⟨hi, e⟩)
  obtain ⟨a, b, rfl, _⟩ := z.2.2 p hp
  exact ⟨Int.natCast_nonneg _, Int.natCast_nonneg _⟩
theorem rows_inj : ∀ {r s : List Pl}, (∀ p ∈ r, 0 ≤ p.1 ∧ 0 ≤ p.2) → (∀ p ∈ s, 0 ≤ p.1 ∧ 0 ≤ p.2) → r.map plS = s.map plS → r = s
  | [], [], _, _, _ => rfl
  | [], _ :: _, _, _, e => by cases e
  | _ :: _, [], _, _, e => by cases e
  | x :: r, y :: s, h, h', e => by
    obtain ⟨e1, e2⟩ := List.cons.inj e
    rw [plS_inj (h x List.mem_cons_self).1 (h' y List.mem_cons_self).1 e1, rows_inj (fun p hp => h p (List.mem_cons_of_mem _ hp)) (fun p hp => h' p (List.mem_cons_of_mem _ hp)) e2]
theorem zip_inj : ∀ {ds : List Int} {T U : List (List Pl)}, T.length = ds.length → U.length = ds.length → (∀ row ∈ T, ∀ p ∈ row, 0 ≤ p.1 ∧ 0 ≤ p.2) → (∀ row ∈ U, ∀ p ∈ row, 0 ≤ p.1 ∧ 0 ≤ p.2) → List.zipWith partS ds T = List.zipWith partS ds U → T = U
  | [], [], [], _, _, _, _, _ => rfl
  | d :: ds, r :: T, s :: U, h1, h2, h3, h4, e => by
    obtain ⟨e1, e2⟩ := List.cons.inj e
    have z : Txt.split (partS d r) (Str.ofString " ") = Txt.split (partS d s) (Str.ofString " ") := by rw [e1]
    rw [split_part, split_part] at z
    rw [rows_inj (h3 r List.mem_cons_self) (h4 s List.mem_cons_self) (List.cons.inj z).2,
      zip_inj (Nat.succ.inj h1) (Nat.succ.inj h2) (fun x hx => h3 x (List.mem_cons_of_mem _ hx)) (fun x hx => h4 x (List.mem_cons_of_mem _ hx)) e2]
theorem mapS_inj {ds : List Int} {T U : List (List Pl)} (h0 : 1 ≤ ds.length) (h1 : T.length = ds.length) (h2 : U.length = ds.length) (h3 : ∀ row ∈ T, ∀ p ∈ row, 0 ≤ p.1 ∧ 0 ≤ p.2) (h4 : ∀ row ∈ U, ∀ p ∈ row, 0 ≤ p.1 ∧ 0 ≤ p.2) (e : mapS ds T = mapS ds U) : T = U := by
  have n1 : List.zipWith partS ds T ≠ [] := fun z => by have := congrArg List.length z; rw [List.length_zipWith, h1, Nat.min_self] at this; simp at this; rw [this] at h0; simp at h0
  have n2 : List.zipWith partS ds U ≠ [] := fun z => by have := congrArg List.length z; rw [List.length_zipWith, h2, Nat.min_self] at this; simp at this; rw [this] at h0; simp at h0
  have z : Txt.split (mapS ds T) (Str.ofString " | ") = Txt.split (mapS ds U) (Str.ofString " | ") := by rw [e]
  rw [split_map n1, split_map n2] at z
  exact zip_inj h1 h2 h3 h4 z
section
variable {P : Program} {w : World} {K : PySem.W.Frag} {mg : Str → Option Value} {base : Heap} {C BL TW BG NB BT LE : Addr}
abbrev spIA (K : PySem.W.Frag) (C BL TW BG NB : Addr) : Sp := fun vs H Q E => spInit K C vs H Q E ∨ spInE C BL TW BG NB vs H Q E
def spPMx (C BT : Addr) : Sp := fun vs H Q E => ∃ t : Str, vs = [.str t] ∧ Asc t ∧ t.length ≤ 300000 ∧ (∀ n, FstNo (Txt.split t (Str.ofString " | ")) n → Rz BT (fldF "BadText" "at" (.int (n : Nat))) H E) ∧
  ∀ xs, AllRd (Txt.split t (Str.ofString " | ")) xs → (Okm (dsX xs) (rwX xs) ∧ trimAll (dsX xs) (rwX xs) = rwX xs → ∀ r H', Same H H' → LMap C H' r (dsX xs) (rwX xs) → Q r H') ∧
    (¬ (Okm (dsX xs) (rwX xs) ∧ trimAll (dsX xs) (rwX xs) = rwX xs) → Rz BT (fldF "BadText" "at" (.int (xs.length : Nat))) H E)
theorem mayC_parse_map {fI : Addr} {fdI : FuncData} (h : Has K mg "parse_map" t_parse_map ["text"]) (B : Bl mg) (mR : May P w K mg base 4 "read_parts" ["text"] (spRPsx BT)) (cF : C8.Cal P w K mg base 6 "format_map" (spStr C) [])
    (MI' : Mk K C fI) (FI' : FnOk P w K mg base (L2N.CX P w) 5 fI fdI ["self", "drifts", "goals"] (spIA K C BL TW BG NB)) (mI' : mg "LaneMap" = some (.ref C)) (bI' : Binds K fdI ["self", "drifts", "goals"] [])
    (mLE : mg "LaneError" = some (.ref LE)) (sub : ∀ X ∈ [BL, TW, BG, NB], PySem.W.exmOne K (.ref X) (.ref LE) = some true)
    (mkH : MksH P w K mg base 2 "BadText" BT ["self", "at"] (spXF K "BadText" "at")) (mk : Mks P w K mg base 2 "BadText" BT ["self", "at"] (spXF K "BadText" "at")) : MayC P w K mg base 8 "parse_map" ["text"] (spPMx C BT) := by
  refine mayC_of h sc_pm (fun vs H Q E z => ?_) (fun f cdv A outer s H vs Q E hr z => ?_)
  · obtain ⟨t, rfl, _⟩ := z; rfl
  obtain ⟨t, rfl, ha, hz, q1, q2⟩ := z
  have nd := sc_pm.nd
  refine ⟨_, (pss_cons (ps_set (i := 1) nd rfl (.inl rfl) (pe_mayC mR hr (by decide) (L2.takes_of (E := E) rfl rfl rfl rfl) (fun _ _ _ _ z => z) rfl (pa_cons (pv 0) pa_nil)))
    (pss_cons (L2H.ps_try_onlyX rfl rfl ⟨rfl, by decide, .inl mLE⟩ (fun hd => L2H.passesAt_of rfl hd) (L2.takes_of (E := E) rfl rfl rfl rfl) (fun W pn xe tkW tkP po => (pss_one (ps_set (i := 2) nd rfl (.inl rfl) (FlC.pe_makeS MI' FI' (hr.mono (by decide)) rfl mI' bI' (fun σ => L2N.passAt tkW σ) (pa_cons (pe_lc (own := [("drift", 3), ("goals", 4)]) (g := (gTup K 2 (gCons (gName 3) (gCons (gName 4) gNil)))) (tt := tYes) rfl nd (n_list K (pv 1)) (blkOk_by (own := [("drift", 3), ("goals", 4)]) (N := nPM) (sc := C8.fnScope t_parse_map) (by decide +kernel)) (fun _ _ _ _ _ => (g_tup K (hp := (pgs_cons (pg_name (i := 3) nd rfl (.inl rfl)) (pgs_cons (pg_name (i := 4) nd rfl (.inl rfl)) pgs_nil))))) (fun _ _ _ _ _ => pts_nil) (fun _ _ _ _ _ => (pv 3))) (pa_cons (pe_lc (own := [("drift", 3), ("goals", 4)]) (g := (gTup K 2 (gCons (gName 3) (gCons (gName 4) gNil)))) (tt := tYes) rfl nd (n_list K (pv 1)) (blkOk_by (own := [("drift", 3), ("goals", 4)]) (N := nPM) (sc := C8.fnScope t_parse_map) (by decide +kernel)) (fun _ _ _ _ _ => (g_tup K (hp := (pgs_cons (pg_name (i := 3) nd rfl (.inl rfl)) (pgs_cons (pg_name (i := 4) nd rfl (.inl rfl)) pgs_nil))))) (fun _ _ _ _ _ => pts_nil) (fun _ _ _ _ _ => (pv 4))) pa_nil))))))
    (fun a oe cls d pn hz hd tkS hot => (pss_one (pr_fldHN (x := "BadText") K mkH (L2H.roomH_mark hr _) (by decide) hot rfl (pa_cons (pe_callB (c_len K) (by rfl) B.len bt_len (pa_cons (pv 1) pa_nil)) pa_nil) tkS))))
    (pss_cons (ps_if (pt_cmpR op_ne (C8.pe_c cF hr (by decide) rfl (pa_cons (pv 2) pa_nil)) (pv 0) (nomark _)) (pss_one (pr_fld mk hr (by decide) rfl (pa_cons (pe_callB (c_len K) (by rfl) B.len bt_len (pa_cons (pv 1) pa_nil)) pa_nil) (tk := FlC.takes_n (L2.takes_of (E := E) rfl rfl rfl rfl)))) pss_nil)
    (pss_one (ps_ret (pv 2)))))), ?_⟩
  refine ⟨_, rfl, t, rfl, ha, hz, q1, fun xs hxs r H1 s1 hr1 => ?_⟩
  obtain ⟨q3, q4⟩ := q2 xs hxs
  obtain ⟨a, vs, rfl, ha1, hp⟩ := hr1
  have lo := hxs.pos
  have hl := paired_len hp
  have hpl := bar_count t
  rw [← hxs.1] at hpl
  have fz : ∀ x : Nat, x ≤ 400000 → x ≤ sizeLine := fun x h => Nat.le_trans h (by decide)
  have get {i : Nat} {x : V} (h : vs[i]? = some x) : ∃ t c d row, x = .ref t ∧ H1 t = some (.tup [.int d, c]) ∧ (dsX xs)[i]? = some d ∧ (rwX xs)[i]? = some row ∧ RowAt H1 c row := by
    obtain ⟨⟨d, row⟩, hz, t, c, e, ht, hr'⟩ := paired_get hp i h
    exact ⟨t, c, d, row, e, ht, by rw [List.getElem?_map, hz]; rfl, by rw [List.getElem?_map, hz]; rfl, hr'⟩
  refine ⟨_, rfl, a, rfl, ⟨_, SqL.of ha1⟩, fun D1 h1 => ?_⟩
  refine lc_it (walk_list (K := K) (a := a) (xs := vs)) (fun i H' => H' = upd H1 D1 (.lst (((dsX xs).take i).map V.int))) (by rw [List.take_zero]; rfl) ?_ ?_ ?_
  · rintro i H' _ rfl; exact SqL.of (by rw [upd_ne (ne_of_none ha1 h1)]; exact ha1)
  · rintro i x H2 H3 hi rfl ⟨rfl, hx⟩
    obtain ⟨t, c, d, row, rfl, ht, hd, hrow, hr'⟩ := get hx
    refine ⟨t, _, rfl, .inl (.inl (by rw [upd_ne (ne_of_none ht h1)]; exact ht)), rfl, _, _, rfl, _, _, rfl, rfl, rfl, _, rfl, _, upd_same, Nat.lt_of_le_of_lt (show _ ≤ 400000 by rw [List.length_map, List.length_take]; omega) (by decide), ?_⟩
    rw [upd_upd, take_snoc hd, List.map_append]; rfl
  rintro H2 rfl
  have e2 : (dsX xs).take vs.length = dsX xs := List.take_of_length_le (by rw [List.length_map]; omega)
  rw [e2]
  have s2 := same_new h1 (.lst ((dsX xs).map V.int))
  have g2 : upd H1 D1 (.lst ((dsX xs).map V.int)) D1 = some (.lst ((dsX xs).map V.int)) := upd_same
  generalize upd H1 D1 (.lst ((dsX xs).map V.int)) = H2 at s2 g2
  refine ⟨_, rfl, a, rfl, ⟨_, SqL.of (s2 _ _ ha1)⟩, fun D2 h2 => ?_⟩
  refine lc_it (walk_list (K := K) (a := a) (xs := vs)) (fun i H' => ∃ us, H' = upd H2 D2 (.lst us) ∧ Paired (RowAt H2) us ((rwX xs).take i)) ⟨[], rfl, by rw [List.take_zero]; exact .nil⟩ ?_ ?_ ?_
  · rintro i H' _ ⟨us, rfl, _⟩; exact SqL.of (by rw [upd_ne (ne_of_none (s2 _ _ ha1) h2)]; exact s2 _ _ ha1)
  · rintro i x H3 H4 hi ⟨us, rfl, hu⟩ ⟨rfl, hx⟩
    obtain ⟨t, c, d, row, rfl, ht, hd, hrow, hr'⟩ := get hx
    have hz := paired_len hu
    rw [List.length_take] at hz
    refine ⟨t, _, rfl, .inl (.inl (by rw [upd_ne (ne_of_none (s2 _ _ ht) h2)]; exact s2 _ _ ht)), rfl, _, _, rfl, _, _, rfl, rfl, rfl, _, rfl, _, upd_same, Nat.lt_of_le_of_lt (show _ ≤ 400000 by omega) (by decide), us ++ [c], by rw [upd_upd], ?_⟩
    rw [take_snoc hrow]
    exact paired_app hu (.cons (hr'.mono s2) .nil)
  rintro H3 ⟨us, rfl, hu⟩
  have e3 : (rwX xs).take vs.length = rwX xs := List.take_of_length_le (by rw [List.length_map]; omega)
  rw [e3] at hu
  have s3 := same_new h2 (.lst us)
  have hG : RowsAt (upd H2 D2 (.lst us)) (.ref D2) (rwX xs) := ⟨D2, us, rfl, upd_same, paired_mono hu fun _ _ z => z.mono s3⟩
  have g3 := s3 _ _ g2
  have ga := s3 _ _ (s2 _ _ ha1)
  have s13 : Same H (upd H2 D2 (.lst us)) := s1.trans (s2.trans s3)
  generalize upd H2 D2 (.lst us) = H3 at hG g3 s13 ga
  intro x dx nx ndx nex
  have s4 : Same H3 (upd (upd H3 dx (.own x)) x (.ins C dx [])) := fun a o e => by rw [upd_ne (ne_of_none e nx), upd_ne (ne_of_none e ndx)]; exact e
  have lenX : (dsX xs).length = xs.length := List.length_map _
  have lenR : (rwX xs).length = xs.length := List.length_map _
  by_cases O : Okm (dsX xs) (rwX xs)
  · refine .inl ⟨x, dx, D1, _, dsX xs, rwX xs, rfl, upd_same, s4 _ _ g3, .inl (hG.mono s4), O, fun H5 k hL => ⟨rfl, ?_⟩⟩
    have s5 : Same H3 H5 := fun a o e => k _ _ (s4 _ _ e) (ne_of_none e nx)
    have O' := O.trim
    refine ⟨_, rfl, _, dsX xs, trimAll (dsX xs) (rwX xs), rfl, hL, O'.wr, fun H6 s6 => ?_⟩
    refine ⟨_, rfl, rfl, _, rfl, ?_⟩
    by_cases c : trimAll (dsX xs) (rwX xs) = rwX xs
    · rw [c, hxs.text]
      refine ite2 (fun cc => absurd cc (by simp)) (fun _ => ?_)
      exact ⟨_, rfl, q3 ⟨O, c⟩ _ _ ((s13.trans s5).trans s6) (by rw [← c]; exact hL.mono s6)⟩
    · have ne : mapS (dsX xs) (trimAll (dsX xs) (rwX xs)) ≠ t := fun e => c (mapS_inj (by rw [lenX]; exact lo) (by rw [trimAll_len, lenX, lenR]) (by rw [lenX, lenR]) (fun row hr p hp => by
        have z := O'.pl (List.mem_flatten.mpr ⟨row, hr, hp⟩)
        exact ⟨z.1, z.2.2⟩) hxs.nat (e.trans hxs.text.symm))
      refine ite2 (fun _ => ?_) (fun cc => absurd (by simp [ne]) cc)
      refine ⟨_, rfl, a, _, rfl, .inl (SqL.of (s6 _ _ (s5 _ _ ga))), made_fld mk.1 ?_⟩
      rw [hl]
      exact (q4 (fun z => c z.2)).same ((s13.trans s5).trans s6)
  · refine .inr ⟨x, dx, D1, _, dsX xs, rwX xs, rfl, upd_same, s4 _ _ g3, hG.mono s4, ine_of (by rw [lenX]; exact lo) (by rw [lenX, lenR]) O fun X hX fs H' s' d H'' s'' _ => ?_⟩
    refine ⟨true, sub X hX, fun _ a' na => ?_, fun z => nomatch z⟩
    refine ⟨_, rfl, a, _, rfl, .inl (SqL.of (s'' _ _ (s' _ _ (s4 _ _ ga)))), made_fldH mk.1 ?_⟩
    rw [hl]
    exact (q4 fun z => O z.1).same (((s13.trans s4).trans s').trans s'')
end
end L2.FK
/-! _law_is_model. -/
namespace L2.FK
open PySem PySem.Spec PyProof.Rows L2.FL FlT LamX TL
theorem nodup_le : ∀ {L S : List Pl}, L.Nodup → (∀ p ∈ L, p ∈ S) → L.length ≤ S.length
  | [], _, _, _ => Nat.zero_le _
  | a :: L, S, nd, h => by
    have ha := h a List.mem_cons_self
    have z := nodup_le (L := L) (S := S.erase a) (List.nodup_cons.mp nd).2 fun p hp => (List.mem_erase_of_ne (fun e => (List.nodup_cons.mp nd).1 (by rw [← e]; exact hp))).mpr (h p (List.mem_cons_of_mem _ hp))
    rw [List.length_erase_of_mem ha] at z
    have := List.length_pos_of_mem ha
    rw [List.length_cons]; omega
theorem nodup_all {A B : List Pl} (nd : A.Nodup) (h : ∀ p ∈ A, p ∈ B) (l : B.length ≤ A.length) : ∀ p ∈ B, p ∈ A := fun p hp => by
  by_cases c : p ∈ A
  · exact c
  · have z := nodup_le (L := p :: A) (S := B) (List.nodup_cons.mpr ⟨c, nd⟩) fun q hq => (List.mem_cons.mp hq).elim (fun e => by rw [e]; exact hp) (h q)
    rw [List.length_cons] at z; omega
theorem nodup_of_len : ∀ {S L : List Pl}, L.Nodup → (∀ p, p ∈ L ↔ p ∈ S) → L.length = S.length → S.Nodup
  | [], _, _, _, _ => List.nodup_nil
  | a :: S, L, nd, h, e => by
    have ha : a ∈ L := (h a).mpr List.mem_cons_self
    have nS : a ∉ S := fun z => by
      have y := nodup_le (L := L) (S := S) nd fun p hp => (List.mem_cons.mp ((h p).mp hp)).elim (fun e => by rw [e]; exact z) id
      rw [List.length_cons] at e; omega
    refine List.nodup_cons.mpr ⟨nS, nodup_of_len (L := L.erase a) (List.Nodup.erase a nd) (fun p => ?_) (by rw [List.length_erase_of_mem ha, e]; rfl)⟩
    by_cases c : p = a
    · subst c
      exact ⟨fun z => absurd z (List.Nodup.not_mem_erase nd), fun z => absurd z nS⟩
    · rw [List.mem_erase_of_ne c, h p, List.mem_cons]
      exact ⟨fun z => z.resolve_left c, .inr⟩
/-- what _law_is_model asks makes a map -/
theorem model_okm {ds : List Int} {rows : List (List Pl)} (hl : rows.length = ds.length) (lo : 1 ≤ ds.length) (hi : ds.length ≤ 6) (sm : ds.sum = 0) (st : ∀ (i : Nat) row d, rows[i]? = some row → ds[i]? = some d → 0 ≤ (row.length : Int) + d) (wid : rows.flatten.length ≤ 2000) (nd : rows.flatten.Nodup)
    (inb : ∀ p ∈ rows.flatten, ∃ (i : Nat) (row : List Pl) (d : Int), p.1 = i ∧ rows[i]? = some row ∧ ds[i]? = some d ∧ 0 ≤ p.2 ∧ p.2 < (row.length : Int) + d) : Okm ds rows := by
  have hz : (rows.map List.length).length = ds.length := by rw [List.length_map]; exact hl
  have mem : ∀ p : Pl, p ∈ plsTo (endsN ds (rows.map List.length)) ds.length ↔ ∃ (i : Nat) (row : List Pl) (d : Int), p.1 = i ∧ rows[i]? = some row ∧ ds[i]? = some d ∧ 0 ≤ p.2 ∧ p.2 < (row.length : Int) + d := fun p => by
    rw [mem_plsTo]
    constructor
    · rintro ⟨r, hr, e, p0, p1⟩
      have h1 := List.getElem?_eq_getElem (hl ▸ hr : r < rows.length)
      have h2 := List.getElem?_eq_getElem hr
      rw [List.getD_eq_getElem?_getD, endsN_get h2 (z := rows[r].length) (by rw [List.getElem?_map, h1]; rfl)] at p1
      have := st r _ _ h1 h2
      refine ⟨r, _, _, e, h1, h2, p0, ?_⟩
      simp only [Option.getD_some] at p1
      omega
    · rintro ⟨i, row, d, e, h1, h2, p0, p1⟩
      obtain ⟨hi', _⟩ := List.getElem?_eq_some_iff.mp h2
      refine ⟨i, hi', e, p0, ?_⟩
      rw [List.getD_eq_getElem?_getD, endsN_get h2 (z := row.length) (by rw [List.getElem?_map, h1]; rfl)]
      simp only [Option.getD_some]
      omega
  have lenB : (plsTo (endsN ds (rows.map List.length)) ds.length).length = rows.flatten.length := by
    have e2 := endsN_len (ds := ds) hz
    rw [plsTo_len _ _ (by rw [e2]; exact Nat.le_refl _), List.take_of_length_le (by rw [e2]; exact Nat.le_refl _), List.length_flatten]
    have z := endsN_sum (ds := ds) (zs := rows.map List.length) hz fun i d z hd hzz => by
      rw [List.getElem?_map] at hzz
      obtain ⟨row, hr, rfl⟩ := Option.map_eq_some_iff.mp hzz
      exact st i row d hr hd
    omega
  exact ⟨hl, lo, hi, wid, st, fun p => ⟨inb p, fun h => nodup_all nd (fun q hq => (mem q).mpr (inb q hq)) (by rw [lenB]; exact Nat.le_refl _) p ((mem p).mpr h)⟩, nd⟩
theorem flat_take' {α : Type} {LL : List (List α)} {i : Nat} {l : List α} (h : LL[i]? = some l) : (LL.take (i + 1)).flatten = (LL.take i).flatten ++ l := by
  rw [take_snoc h, List.flatten_append]; simp
theorem okm_sum' {ds : List Int} {rows : List (List Pl)} (o : Okm ds rows) : ds.sum = 0 := okm_sum (a := ⟨ds, rows⟩) o
/-- the dict's keys are just these places -/
def KS (kvs : List (List Key × V)) (S : List Pl) : Prop := ∃ L : List Pl, kvs.map (·.1) = L.map key ∧ L.Nodup ∧ ∀ p, p ∈ L ↔ p ∈ S
theorem KS.nil : KS [] [] := ⟨[], rfl, List.nodup_nil, fun _ => Iff.rfl⟩
theorem KS.put {kvs : List (List Key × V)} {S : List Pl} {p : Pl} {v : V} (h : KS kvs S) : KS (putK kvs (key p) v) (S ++ [p]) := by
  obtain ⟨L, e, nd, m⟩ := h
  have an : (kvs.any fun kv => decide (kv.1 = key p)) = decide (p ∈ L) := by
    rw [Bool.eq_iff_iff, List.any_eq_true, decide_eq_true_eq]
    constructor
    · rintro ⟨kv, hm, hk⟩
      have z : kv.1 ∈ L.map key := by rw [← e]; exact List.mem_map.mpr ⟨kv, hm, rfl⟩
      obtain ⟨q, hq, eq⟩ := List.mem_map.mp z
      have := key_inj (eq.trans (of_decide_eq_true hk))
      rw [← this]; exact hq
    · intro hp
      have z : key p ∈ kvs.map (·.1) := by rw [e]; exact List.mem_map.mpr ⟨p, hp, rfl⟩
      obtain ⟨kv, hm, hk⟩ := List.mem_map.mp z
      exact ⟨kv, hm, decide_eq_true hk⟩
  unfold putK
  rw [an]
  by_cases c : p ∈ L
  · rw [if_pos (decide_eq_true c)]
    refine ⟨L, ?_, nd, fun q => ?_⟩
    · rw [← e, List.map_map]
      refine List.map_congr_left fun kv _ => ?_
      show (if kv.1 = key p then (kv.1, v) else kv).1 = kv.1
      split <;> rfl
    · rw [List.mem_append, List.mem_singleton, m q]
      exact ⟨.inl, fun z => z.elim id fun z => (m q).mp (by rw [z]; exact c)⟩
  · rw [if_neg (by simpa using c)]
    refine ⟨L ++ [p], by rw [List.map_append, List.map_append, e]; rfl, ?_, fun q => by rw [List.mem_append, List.mem_append, m q]⟩
    exact List.nodup_append.mpr ⟨nd, by simp, fun a ha b hb e => c (by rw [← List.mem_singleton.mp hb, ← e]; exact ha)⟩
theorem KS.len {kvs : List (List Key × V)} {S : List Pl} (h : KS kvs S) : (kvs.length = S.length ↔ S.Nodup) ∧ kvs.length ≤ S.length := by
  obtain ⟨L, e, nd, m⟩ := h
  have le : kvs.length = L.length := by have := congrArg List.length e; rw [List.length_map, List.length_map] at this; exact this
  rw [le]
  exact ⟨⟨nodup_of_len nd m, fun n => ((List.perm_ext_iff_of_nodup nd n).mpr m).length_eq⟩, nodup_le nd fun p hp => (m p).mp hp⟩
section
variable {P : Program} {w : World} {K : PySem.W.Frag} {mg : Str → Option Value} {base : Heap} {TT : List (Addr × Str)}
abbrev nIsM : List Str := ["_law_d", "_law_hits", "_law_size", "_law_row", "_law_place"]
def spIsM : Sp := fun vs H Q _ => ∃ (v : V) (ds : List Int) (rows : List (List Pl)), vs = [v] ∧ DAt H v ds rows ∧ rows.length = ds.length ∧ 1 ≤ ds.length ∧ ds.length ≤ 300001 ∧ rows.flatten.length ≤ 300001 ∧ (∀ p ∈ rows.flatten, ∃ i j : Nat, p = ((i : Int), (j : Int))) ∧
  (Okm ds rows → ∀ H', Same H H' → Q (.bl true) H') ∧ (¬ Okm ds rows → ∀ H', Same H H' → Q (.bl false) H')
theorem sc_isM : FnScope nIsM ["_law_d"] (C8.fnScope t__law_is_model) := C8.fnScope_by (by decide +kernel)
theorem ok_is_model (h : Has K mg "_law_is_model" t__law_is_model ["_law_d"]) (B : Bl mg) : C8.Cal P w K mg base 1 "_law_is_model" spIsM [] := by
  refine cal_of h sc_isM (fun vs H Q E z => ?_) (fun ff cdv A outer s H vs Q E hr z => ?_)
  · obtain ⟨v, ds, rows, rfl, _⟩ := z; rfl
  obtain ⟨v, ds, rows, rfl, hd, hl, lo, l3, f3, hn, q1, q2⟩ := z
  have nd := sc_isM.nd
  have hu := hu_of hr
  refine ⟨_, (pss_cons (ps_par (i := 1) (j := 2) (by rfl) nd rfl rfl (by decide) rfl rfl (pa_cons pe_dnewT (pa_cons pe_int pa_nil)) rfl)
    (pss_cons (ps_if (PW.pt (pw_or (pt_cmpR op_gt (pe_callB (c_len K) (by rfl) B.len bt_len (pa_cons (pe_ix (x_tup K) (pv 0) pe_int (fun _ _ => rfl)) pa_nil)) pe_int (nomark _)) (pw_or1 (pt_cmpR op_ne (pe_callB (cr_sum rfl) (by rfl) B.sum bt_sum (pa_cons (pe_ix (x_tup K) (pv 0) pe_int (fun _ _ => rfl)) pa_nil)) pe_int (nomark _))))) (pss_one (ps_ret pe_bl)) pss_nil)
    (C8.pss_cut (ps_for PassesOwn.never rfl (pi_range1 rfl B.range (pa_cons (pe_callB (c_len K) (by rfl) B.len bt_len (pa_cons (pe_ix (x_tup K) (pv 0) pe_int (fun _ _ => rfl)) pa_nil)) pa_nil)) (pg_name (i := 3) nd rfl (.inl rfl))
    (pss_cons (ps_set (i := 2) nd rfl (.inl rfl) (pe_op op_add (pv 2) (pe_callB (c_len K) (by rfl) B.len bt_len (pa_cons (pe_ix (x_list K) (pe_ix (x_tup K) (pv 0) pe_int (fun _ _ => rfl)) (pv 3) (fun _ _ => rfl)) pa_nil))))
    (pss_cons (ps_if (PW.pt (pw_or (pt_cmpR op_lt (pe_op op_add (pe_callB (c_len K) (by rfl) B.len bt_len (pa_cons (pe_ix (x_list K) (pe_ix (x_tup K) (pv 0) pe_int (fun _ _ => rfl)) (pv 3) (fun _ _ => rfl)) pa_nil)) (pe_ix (x_list K) (pe_ix (x_tup K) (pv 0) pe_int (fun _ _ => rfl)) (pv 3) (fun _ _ => rfl))) pe_int (nomark _)) (pw_or1 (pt_cmpR op_gt (pe_op op_add (pe_callB (c_len K) (by rfl) B.len bt_len (pa_cons (pe_ix (x_list K) (pe_ix (x_tup K) (pv 0) pe_int (fun _ _ => rfl)) (pv 3) (fun _ _ => rfl)) pa_nil)) (pe_ix (x_list K) (pe_ix (x_tup K) (pv 0) pe_int (fun _ _ => rfl)) (pv 3) (fun _ _ => rfl))) pe_int (nomark _))))) (pss_one (ps_ret pe_bl)) pss_nil)
    (pss_one (ps_for PassesOwn.never rfl (n_list K (pe_ix (x_list K) (pe_ix (x_tup K) (pv 0) pe_int (fun _ _ => rfl)) (pv 3) (fun _ _ => rfl))) (pg_name (i := 4) nd rfl (.inl rfl))
    (pss_one (ps_dput hu (pv 1) (pv 4) pe_bl rfl)))))))
    (pss_cons (ps_if (PW.pt (pw_or (pt_cmpR op_gt (pv 2) pe_int (nomark _)) (pw_or1 (pt_cmpR op_ne (pe_callB call_len_dT (by rfl) B.len bt_len (pa_cons (pv 1) pa_nil)) (pv 2) (nomark _))))) (pss_one (ps_ret pe_bl)) pss_nil)
    (pss_cons (ps_lock (ps_for PassesOwn.never rfl (pi_keys (pv 1)) (pg_name (i := 4) nd rfl (.inl rfl))
    (pss_one (ps_if (PW.pt (pw_or (pt_cmpR op_ge (pe_ix (x_tup K) (pv 4) pe_int (fun _ _ => rfl)) (pe_callB (c_len K) (by rfl) B.len bt_len (pa_cons (pe_ix (x_tup K) (pv 0) pe_int (fun _ _ => rfl)) pa_nil)) (nomark _)) (pw_or1 (pt_cmpR op_ge (pe_ix (x_tup K) (pv 4) pe_int (fun _ _ => rfl)) (pe_op op_add (pe_callB (c_len K) (by rfl) B.len bt_len (pa_cons (pe_ix (x_list K) (pe_ix (x_tup K) (pv 0) pe_int (fun _ _ => rfl)) (pe_ix (x_tup K) (pv 4) pe_int (fun _ _ => rfl)) (fun _ _ => rfl)) pa_nil)) (pe_ix (x_list K) (pe_ix (x_tup K) (pv 0) pe_int (fun _ _ => rfl)) (pe_ix (x_tup K) (pv 4) pe_int (fun _ _ => rfl)) (fun _ _ => rfl))) (nomark _))))) (pss_one (ps_ret pe_bl)) pss_nil))))
    (pss_one (ps_ret pe_bl))))))), ?_⟩
  obtain ⟨td, vd1, vd2, rfl, htd, ⟨a1, rfl, ha1⟩, ⟨a2, us2, rfl, ha2, hus2⟩⟩ := hd
  have hll : (ds.map V.int).length = ds.length := List.length_map _
  have hul := paired_len hus2
  refine fun D hD => ⟨_, _, rfl, ?_⟩
  have s0 : Same H (del D (upd H D (.dT []))) := by rw [del_upd]; exact same_del (Same.refl _) hD
  have g0 : upd H D (.dT []) D = some (.dT []) := upd_same
  generalize upd H D (.dT []) = H0 at s0 g0
  have S0 : Same H H0 := s0.trans del_same
  refine ⟨_, rfl, td, _, _, _, rfl, rfl, .inl (.inl (S0 _ _ htd)), rfl, a1, _, rfl, .inl (SqL.of (S0 _ _ ha1)), _, _, rfl, rfl, _, rfl, ?_⟩
  rw [hll]
  by_cases c6 : 6 < ds.length
  · rw [decide_eq_true (show ((6 : Int) < (ds.length : Nat)) by omega)]
    exact iteT (iteT (q2 (fun o => by have := o.hi; omega) _ S0))
  rw [decide_eq_false (show ¬ ((6 : Int) < (ds.length : Nat)) by omega)]
  refine iteF ⟨_, rfl, td, _, _, _, rfl, rfl, .inl (.inl (S0 _ _ htd)), rfl, a1, _, rfl, SqL.of (S0 _ _ ha1), rfl, _, rfl, ?_⟩
  by_cases cs : ds.sum = 0
  rotate_left
  · exact ite2 (fun _ => q2 (fun o => cs (okm_sum' o)) _ S0) (fun c => absurd (by simp [cs]) c)
  refine ite2 (fun c => absurd c (by simp [cs])) (fun _ => ?_)
  refine ⟨fun σ H' => Same H (del D H') ∧ (∃ kvs, H' D = some (.dT kvs) ∧ KS kvs rows.flatten) ∧ (∀ (i : Nat) row d, rows[i]? = some row → ds[i]? = some d → 0 ≤ (row.length : Int) + d ∧ (row.length : Int) + d ≤ 2000) ∧ ∃ x3 x4, σ = [some (.ref td), some (.ref D), some (.int (rows.flatten.length : Nat)), x3, x4], ?_, ?_⟩
  · refine ⟨_, rfl, td, _, _, _, rfl, rfl, .inl (.inl (S0 _ _ htd)), rfl, a1, _, rfl, .inl (SqL.of (S0 _ _ ha1)), _, rfl, by omega, by omega, ?_⟩
    have en : (((ds.map V.int).length : Nat) : Int).toNat = ds.length := by rw [Int.toNat_natCast, hll]
    rw [en]
    refine for_it (walk_range (lo := 0) (n := ds.length)) (fun i σ H' => Same H (del D H') ∧ (∃ kvs, H' D = some (.dT kvs) ∧ KS kvs (rows.take i).flatten) ∧ (∀ (j : Nat) row d, j < i → rows[j]? = some row → ds[j]? = some d → 0 ≤ (row.length : Int) + d ∧ (row.length : Int) + d ≤ 2000) ∧ ∃ x3 x4, σ = [some (.ref td), some (.ref D), some (.int ((rows.take i).flatten.length : Nat)), x3, x4]) ?_ ?_ ?_ ?_
    · exact ⟨s0, ⟨[], g0, KS.nil⟩, fun j _ _ h => absurd h (by omega), _, _, rfl⟩
    · rintro i σ H' _ _; trivial
    · rintro i x σ H1 H2 hi ⟨s1, ⟨kvs, g1, k1⟩, bd, x3, x4, rfl⟩ ⟨rfl, rfl⟩
      have S1 : Same H H2 := s1.trans del_same
      have hrow := List.getElem?_eq_getElem (hl ▸ hi : i < rows.length)
      have hdd := List.getElem?_eq_getElem hi
      generalize rows[i] = row at hrow
      generalize ds[i] = dd at hdd
      obtain ⟨xr, hxr, ra, rw', rfl, gra, prw⟩ := paired_get' hus2 i hrow
      have hrl := paired_len prw
      refine ⟨_, rfl, _, rfl, td, _, _, _, rfl, rfl, .inl (.inl (S1 _ _ htd)), rfl, _, rfl, a2, _, _, _, rfl, rfl, SqL.of (S1 _ _ ha2), (by rw [Int.zero_add]; exact atI_nat hxr), ra, _, rfl, .inl (SqL.of (S1 _ _ gra)), _, _, rfl, rfl, ?_⟩
      have aT : atI us2 (0 + (i : Nat)) = some (.ref ra) := by rw [Int.zero_add]; exact atI_nat hxr
      have aD : atI (ds.map V.int) (0 + (i : Nat)) = some (.int dd) := by rw [Int.zero_add]; exact atI_nat (by rw [List.getElem?_map, hdd]; rfl)
      refine ⟨_, rfl, td, _, _, _, rfl, rfl, .inl (.inl (S1 _ _ htd)), rfl, _, rfl, a2, _, _, _, rfl, rfl, SqL.of (S1 _ _ ha2), aT, ra, _, rfl, .inl (SqL.of (S1 _ _ gra)),
        _, rfl, td, _, _, _, rfl, rfl, .inl (.inl (S1 _ _ htd)), rfl, _, rfl, a1, _, _, _, rfl, rfl, SqL.of (S1 _ _ ha1), aD, _, _, rfl, rfl, _, _, rfl, rfl, _, rfl, ?_⟩
      rw [hrl]
      by_cases c1 : (row.length : Int) + dd < 0
      · rw [decide_eq_true c1]
        exact iteT (iteT (q2 (fun o => by have := o.st i row dd hrow hdd; omega) _ S1))
      rw [decide_eq_false c1]
      refine iteF ⟨_, rfl, td, _, _, _, rfl, rfl, .inl (.inl (S1 _ _ htd)), rfl, _, rfl, a2, _, _, _, rfl, rfl, SqL.of (S1 _ _ ha2), aT, ra, _, rfl, .inl (SqL.of (S1 _ _ gra)),
        _, rfl, td, _, _, _, rfl, rfl, .inl (.inl (S1 _ _ htd)), rfl, _, rfl, a1, _, _, _, rfl, rfl, SqL.of (S1 _ _ ha1), aD, _, _, rfl, rfl, _, _, rfl, rfl, _, rfl, ?_⟩
      rw [hrl]
      by_cases c2 : 2000 < (row.length : Int) + dd
      · rw [decide_eq_true c2]
        exact iteT (q2 (fun o => by have := o.start_le hrow hdd; omega) _ S1)
      rw [decide_eq_false c2]
      refine iteF ⟨_, rfl, td, _, _, _, rfl, rfl, .inl (.inl (S1 _ _ htd)), rfl, _, rfl, a2, _, _, _, rfl, rfl, SqL.of (S1 _ _ ha2), aT, ra, rfl, ⟨_, SqL.of (S1 _ _ gra)⟩, ?_⟩
      have sub : ∀ j, (((rows.take i).flatten ++ row.take j)).length ≤ 300001 := fun j => by
        refine Nat.le_trans (List.Sublist.length_le ?_) f3
        refine ((List.Sublist.refl _).append (List.take_sublist _ _)).trans ?_
        rw [← flat_take' hrow]
        have e := congrArg List.flatten (List.take_append_drop (i + 1) rows)
        rw [List.flatten_append] at e
        rw [← e]
        exact List.sublist_append_left _ _
      refine for_it (walk_list (K := K) (a := ra) (xs := rw')) (fun j σ H' => Same H (del D H') ∧ (∃ kvs, H' D = some (.dT kvs) ∧ KS kvs ((rows.take i).flatten ++ row.take j)) ∧ ∃ x4, σ = [some (.ref td), some (.ref D), some (.int (((rows.take i).flatten.length : Nat) + (row.length : Nat))), some (.int (0 + (i : Nat))), x4]) ?_ ?_ ?_ ?_
      · exact ⟨s1, ⟨kvs, g1, by rw [List.take_zero, List.append_nil]; exact k1⟩, _, rfl⟩
      · rintro j σ H' _ ⟨s', _⟩; exact SqL.of (del_same _ _ (s' _ _ gra))
      · rintro j x σ H3 H4 hj ⟨s3, ⟨kvs3, g3, k3⟩, x4, rfl⟩ ⟨rfl, hx2⟩
        obtain ⟨p, hp, tp, rfl, htp⟩ := paired_get prw j hx2
        have htp3 : H4 tp = some (.tup ((key p).map kV)) := del_same _ _ (s3 _ _ htp)
        have l3 : kvs3.length < sizeLine := Nat.lt_of_le_of_lt (Nat.le_trans k3.len.2 (sub j)) (by decide)
        have hput := DPut.t (v := .bl true) g3 htp3 l3
        refine ⟨_, rfl, _, rfl, D, _, rfl, hput, ?_⟩
        refine ⟨by rw [del_upd]; exact s3, ⟨_, upd_same, ?_⟩, _, rfl⟩
        rw [take_snoc hp, ← List.append_assoc]
        exact k3.put
      · rintro σ H3 ⟨s3, ⟨kvs3, g3, k3⟩, x4, rfl⟩
        rw [hrl, List.take_length] at k3
        refine ⟨s3, ⟨kvs3, g3, by rw [flat_take' hrow]; exact k3⟩, fun j row2 d2 hj h1 h2 => ?_, _, _, by rw [flat_take' hrow, List.length_append]; rfl⟩
        by_cases e : j = i
        · subst e
          rw [hrow] at h1; rw [hdd] at h2
          cases h1; cases h2
          exact ⟨by omega, by omega⟩
        · exact bd j row2 d2 (by omega) h1 h2
    · rintro σ H1 ⟨s1, k1, bd, x3, x4, rfl⟩
      have et : rows.take ds.length = rows := List.take_of_length_le (by omega)
      rw [et] at k1
      exact ⟨s1, k1, fun i row d h1 h2 => bd i row d (List.getElem?_eq_some_iff.mp h2).1 h1 h2, _, _, by rw [et]⟩
  rintro σ H1 ⟨s1, ⟨kvs, g1, k1⟩, bd, x3, x4, rfl⟩
  have S1 : Same H H1 := s1.trans del_same
  obtain ⟨kl1, kl2⟩ := k1.len
  refine ⟨_, rfl, _, _, rfl, rfl, _, rfl, ?_⟩
  by_cases w : 2000 < rows.flatten.length
  · rw [decide_eq_true (show ((2000 : Int) < (rows.flatten.length : Nat)) by omega)]
    exact iteT (iteT (q2 (fun o => by have := o.wid; omega) _ S1))
  rw [decide_eq_false (show ¬ ((2000 : Int) < (rows.flatten.length : Nat)) by omega)]
  refine iteF ⟨_, rfl, D, kvs, rfl, g1, _, rfl, rfl, _, rfl, ?_⟩
  by_cases dn : rows.flatten.Nodup
  rotate_left
  · have ne : ¬ kvs.length = rows.flatten.length := fun e => dn (kl1.mp e)
    exact ite2 (fun _ => q2 (fun o => dn o.nd) _ S1) (fun c => absurd (by rw [decide_eq_false (fun z => ne (by have := V.int.inj z; omega))]; rfl) c)
  have le := kl1.mpr dn
  refine ite2 (fun c => absurd c (by rw [le]; simp)) (fun _ => ?_)
  refine ⟨D, _, g1, trivial, fun od => ?_⟩
  have sL : ∀ {H' : Hp}, H' = upd H1 D (.frz od (.dT kvs)) → Same H H' := fun {H'} e => by
    subst e
    exact fun b o hb => by
      have z := s1 b o hb
      have nb : b ≠ D := fun e => by rw [e, hD] at hb; cases hb
      rw [upd_ne nb]; rw [del_ne nb] at z; exact z
  refine ⟨_, rfl, D, od, rfl, .inr ⟨kvs, upd_same, ?_⟩⟩
  refine for_it (walk_keysT (d := D) (o := od) (kvs := kvs)) (fun k σ H' => H' = upd H1 D (.frz od (.dT kvs)) ∧ (∀ p, key p ∈ (kvs.take k).map (·.1) → ∃ (i : Nat) (row : List Pl) (d : Int), p.1 = i ∧ rows[i]? = some row ∧ ds[i]? = some d ∧ 0 ≤ p.2 ∧ p.2 < (row.length : Int) + d) ∧ ∃ x3 x4, σ = [some (.ref td), some (.ref D), some (.int (rows.flatten.length : Nat)), x3, x4]) ?_ ?_ ?_ ?_
  · exact ⟨rfl, (fun p h => nomatch h), _, _, rfl⟩
  · rintro k σ H' _ ⟨rfl, _⟩; exact upd_same
  · rintro k x σ H2 H3 hk ⟨rfl, inb, x3, x4, rfl⟩ ⟨rfl, kk, v, tq, hkk, rfl, htq⟩
    obtain ⟨L, eL, ndL, mL⟩ := k1
    obtain ⟨p, hpL, rfl⟩ : ∃ p, p ∈ rows.flatten ∧ kk = key p := by
      have z : kk ∈ kvs.map (·.1) := List.mem_map.mpr ⟨_, List.mem_of_getElem? hkk, rfl⟩
      rw [eL] at z
      obtain ⟨q, hq, e⟩ := List.mem_map.mp z
      exact ⟨q, (mL q).mp hq, e.symm⟩
    obtain ⟨i, j, rfl⟩ := hn p hpL
    have S2 := sL rfl
    have sq : SqT K (upd H1 D (.frz od (.dT kvs))) tq [.int (i : Int), .int (j : Int)] := .inl (.inl htq)
    have out : ∀ {Z : Prop}, ((¬ ∃ (i' : Nat) (row : List Pl) (d : Int), ((i : Int), (j : Int)).1 = i' ∧ rows[i']? = some row ∧ ds[i']? = some d ∧ 0 ≤ ((i : Int), (j : Int)).2 ∧ ((i : Int), (j : Int)).2 < (row.length : Int) + d) → Z) → (¬ ∃ (i' : Nat) (row : List Pl) (d : Int), ((i : Int), (j : Int)).1 = i' ∧ rows[i']? = some row ∧ ds[i']? = some d ∧ 0 ≤ ((i : Int), (j : Int)).2 ∧ ((i : Int), (j : Int)).2 < (row.length : Int) + d) → Z := fun h => h
    have fin : ∀ {no : ¬ ∃ (i' : Nat) (row : List Pl) (d : Int), ((i : Int), (j : Int)).1 = i' ∧ rows[i']? = some row ∧ ds[i']? = some d ∧ 0 ≤ ((i : Int), (j : Int)).2 ∧ ((i : Int), (j : Int)).2 < (row.length : Int) + d}, (upd H1 D (.frz od (.dT kvs))) D = some (.frz od (.dT kvs)) ∧ Q (.bl false) (upd (upd H1 D (.frz od (.dT kvs))) D (.dT kvs)) := fun {no} => by
      refine ⟨upd_same, q2 (fun o => no ((o.mem _).mp hpL)) _ ?_⟩
      rw [upd_upd]
      exact fun b o hb => by
        have z := s1 b o hb
        have nb : b ≠ D := fun e => by rw [e, hD] at hb; cases hb
        rw [upd_ne nb]; rw [del_ne nb] at z; exact z
    refine ⟨_, rfl, tq, _, _, _, rfl, rfl, sq, rfl, _, rfl, td, _, _, _, rfl, rfl, .inl (.inl (S2 _ _ htd)), rfl, a1, _, rfl, .inl (SqL.of (S2 _ _ ha1)), _, _, rfl, rfl, _, rfl, ?_⟩
    rw [hll]
    by_cases ci : i < ds.length
    rotate_left
    · rw [decide_eq_true (show ((ds.length : Nat) : Int) ≤ (i : Nat) by omega)]
      refine iteT (iteT (fin (no := ?_)))
      rintro ⟨i', row, d, e, _, h2, _⟩
      have := (List.getElem?_eq_some_iff.mp h2).1
      have e : (i : Int) = i' := e
      omega
    rw [decide_eq_false (show ¬ ((ds.length : Nat) : Int) ≤ (i : Nat) by omega)]
    have hrow := List.getElem?_eq_getElem (hl ▸ ci : i < rows.length)
    have hdd := List.getElem?_eq_getElem ci
    generalize rows[i] = row at hrow
    generalize ds[i] = dd at hdd
    obtain ⟨xr, hxr, ra, rw', rfl, gra, prw⟩ := paired_get' hus2 i hrow
    have hrl := paired_len prw
    have aD : (ds.map V.int)[i]? = some (.int dd) := by rw [List.getElem?_map, hdd]; rfl
    refine iteF ⟨_, rfl, tq, _, _, _, rfl, rfl, sq, rfl, _, rfl, td, _, _, _, rfl, rfl, .inl (.inl (S2 _ _ htd)), rfl, _, rfl, tq, _, _, _, rfl, rfl, sq, rfl, a2, _, _, _, rfl, rfl, SqL.of (S2 _ _ ha2), atI_nat hxr, ra, _, rfl, .inl (SqL.of (S2 _ _ gra)),
      _, rfl, td, _, _, _, rfl, rfl, .inl (.inl (S2 _ _ htd)), rfl, _, rfl, tq, _, _, _, rfl, rfl, sq, rfl, a1, _, _, _, rfl, rfl, SqL.of (S2 _ _ ha1), atI_nat aD, _, _, rfl, rfl, _, _, rfl, rfl, _, rfl, ?_⟩
    rw [hrl]
    by_cases cj : (row.length : Int) + dd ≤ (j : Nat)
    · rw [decide_eq_true cj]
      refine iteT (fin (no := ?_))
      rintro ⟨i', row2, d, e, h1, h2, h3, h4⟩
      have e : (i : Int) = i' := e
      have e : i = i' := by omega
      subst e
      rw [hrow] at h1; rw [hdd] at h2
      cases h1; cases h2
      have h4 : (j : Int) < _ := h4
      omega
    rw [decide_eq_false cj]
    refine iteF ⟨rfl, fun p hp => ?_, _, _, rfl⟩
    rw [take_snoc hkk, List.map_append, List.mem_append] at hp
    rcases hp with hp | hp
    · exact inb p hp
    · have := key_inj (List.mem_singleton.mp hp)
      subst this
      exact ⟨i, row, dd, rfl, hrow, hdd, by show (0 : Int) ≤ j; omega, by show (j : Int) < _; omega⟩
  · rintro σ H2 ⟨rfl, inb, x3, x4, rfl⟩
    refine ⟨upd_same, q1 (model_okm hl lo (by omega) cs (fun i row d h1 h2 => (bd i row d h1 h2).1) (by omega) dn fun p hp => inb p ?_) _ ?_⟩
    · obtain ⟨L, eL, ndL, mL⟩ := k1
      rw [List.take_length, eL]
      exact List.mem_map.mpr ⟨p, (mL p).mpr hp, rfl⟩
    · rw [upd_upd]
      exact fun b o hb => by
        have z := s1 b o hb
        have nb : b ≠ D := fun e => by rw [e, hD] at hb; cases hb
        rw [upd_ne nb]; rw [del_ne nb] at z; exact z
end
end L2.FK
/-! len(x), repr(x), bool(x) of an own class with __len__ and __repr__; x == y with y of another kind. -/
namespace PySem.W
open PySem PySem.Calls PyProof.Rows
section
variable {prog : Program} {w : World} {A : Around} {E : Value → Shared → Prop} {s : Shared} {K : Frag} {x C L f : Addr} {h₀ : Heap} {m : Str → Option Value} {ox : Obj} {od : Option Obj}
theorem len_body {Q : Value → Shared → Prop} (F : Fr h₀ L s.heap m) (X₀ : K.In h₀) (I : InstAt s.heap x ox C od) (hs : findIn K (.ref C) "__len__" = some (some (.ref f))) (hf : isFn K (.ref f) = true)
    (h : wpAny (model prog w) A (call (.ref f) [.ref x]) (LenBack Q) E s) : wpAny (model prog w) A (Builtin.«len» ⟨[.ref x], []⟩) (fun fin s' => ∃ r, fin = .done (.ret r) ∧ Q r s') E s := by
  unfold Builtin.«len»
  refine wpAny_bind (m := oneArg "len" _) (wpAny_pure ?_)
  refine wpAny_bind (m := callSpecial? (.ref x) (Str.ofString "__len__")) (special_fn (X₀.keeps F.keep) I hs (beq_iff_eq.mp hf) (wpAny_mono h (fun r s' hr => ?_) fun _ _ y => y))
  cases r <;> first | exact hr.elim | skip
  rename_i n u
  obtain ⟨⟨h0, h1⟩, hq⟩ := hr
  refine wpAny_bind (wpAny_holding (wpAny_pure ?_))
  refine wpAny_bind (wpAny_letGo ?_)
  show wpAny _ _ (if n < 0 then _ else _) _ _ _
  rw [if_neg (by omega)]
  show wpAny _ _ (if n ≥ 2 ^ 63 then _ else _) _ _ _
  rw [if_neg (by omega)]
  exact wpAny_bind (wpAny_mkInt (wpAny_pure ⟨_, rfl, hq⟩))
theorem truthy_L {Q : Bool → Shared → Prop} (F : Fr h₀ L s.heap m) (X₀ : K.In h₀) (I : InstAt s.heap x ox C od) (hb : findIn K (.ref C) "__bool__" = some none) (hs : findIn K (.ref C) "__len__" = some (some (.ref f))) (hf : isFn K (.ref f) = true)
    (h : wpAny (model prog w) A.in1 (call (.ref f) [.ref x]) (LenBack fun v s' => ∃ n u, v = .int n u ∧ Q (n != 0) s') E s) : wpAny (model prog w) A (truthy (.ref x)) Q E s := by
  have X := X₀.keeps F.keep
  have key : wpAny (model prog w) A (runValue (.builtin "len" ⟨[.ref x], []⟩)) (fun v s' => ∃ n u, v = .int n u ∧ Q (n != 0) s') E s := by
    refine wpAny_runValue (codeAny_builtin entry_len ?_)
    rw [Around.under_plainId plain_len _]
    exact wpAny_mono (len_body F X₀ I hs hf h) (fun fin s' h' => by obtain ⟨r, rfl, hq⟩ := h'; exact hq) fun _ _ e => e
  unfold truthy
  refine wpAny_bind (m := callSpecial? (.ref x) (Str.ofString "__bool__")) (wpAny_bind (wpAny_bind (I.type.here ((looks_findIn X hb).here (wpAny_pure ?_)))))
  refine wpAny_bind (wpAny_bind (I.type.here ((looks_findIn X hs).here ?_)))
  exact wpAny_bind (wpAny_mono key (fun r s' h' => by obtain ⟨n, u, rfl, hq⟩ := h'; exact wpAny_pure hq) fun _ _ e => e)
theorem bool_body {Q : Value → Shared → Prop} (h : wpAny (model prog w) A (truthy (.ref x)) (fun b s' => Q (.bool b) s') E s) :
    wpAny (model prog w) A (Builtin.«bool.__new__» ⟨[.type "bool", .ref x], []⟩) (fun fin s' => ∃ r, fin = .done (.ret r) ∧ Q r s') E s := by
  obtain ⟨hp, g, d, tk, os⟩ := s
  have f1 := PySem.F.conv_sub_bool
  unfold Builtin.«bool.__new__»
  repeat (first | (refine wpAny_bind (m := truthy (.ref x)) (wpAny_mono h (fun b s' z => ?_) fun _ _ y => y)) | wp_step)
  all_goals exact ⟨_, rfl, z⟩
theorem bool_call {Q : Value → Shared → Prop} (h : wpAny (model prog w) A.in1.in1 (truthy (.ref x)) (fun b s' => Q (.bool b) s') E s) : wpAny (model prog w) A (call (.type "bool") [.ref x]) Q E s := by
  refine callType_codes (T := "bool") (Bi := Builtin.«object.__init__») (Q₁ := fun r s₁ => ∃ b, r = .bool b ∧ Q r s₁) PySem.F.called_bool (PySem.F.typeCall_bool_1 _) PySem.F.entry_object_init ?_ ?_
  · refine codeAny_of_tree ?_
    show wpAny _ A.in1.in1 (do checkBuiltinCall "bool.__new__" ⟨[.type "bool", .ref x], []⟩; again (.builtin "bool.__new__" ⟨[.type "bool", .ref x], []⟩)) _ _ s
    refine wpAny_bind (wpAny_of_eq (PySem.F.newCall_bool_1 _) (wpAny_pure ⟨plainId_quiet (by decide +kernel) _, codeAny_builtin PySem.F.entry_bool_new ?_⟩))
    rw [Around.under_plainId (by decide +kernel) _]
    exact wpAny_mono (bool_body (Q := fun r s₁ => ∃ b, r = .bool b ∧ Q r s₁) (wpAny_mono h (fun b s' z => ⟨b, rfl, z⟩) fun _ _ y => y)) (fun fin s' z => by obtain ⟨r, rfl, z⟩ := z; exact z) fun _ _ y => y
  · rintro obj s₁ ⟨b, rfl, hq⟩
    exact ⟨typeIs_bool _ _, PySem.F.args_object_init_2 _ _, object_init_meets PySem.F.called_bool.init.lookup PySem.F.called_bool.made (by decide) prog w A.in1 _ s₁ ⟨typeIs_bool _ _, rfl, hq⟩⟩
end
end PySem.W
namespace L2
open PySem PySem.Spec PyProof.Rows
section
variable {X : Cx} {n : Nat} {CX : CXT} {C f : Addr} {fd : FuncData} {ps : List Str} {sp : Sp} {E : XK}
theorem Inv.env1 {pins : List (Addr × Obj)} {σ : St} {H : Hp} {s : Shared} (I : Inv X pins σ H s) (A : Around) (hA : A.frames = X.A.frames) : Env0 X.prog X.w X.K X.mg X.base A X.stack s H := by
  have e := I.env0
  exact ⟨hA.trans e.frames, e.mod, e.bs, e.bsz, e.funs, e.frf, e.hok, e.bare⟩
/-- len(x) by the own __len__ -/
def rLenO (C : Addr) (sp : Sp) (E : XK) : List V → Hp → VK → Prop := fun xs H Q => ∃ a dx fs, xs = [.ref a] ∧ H a = some (.ins C dx fs) ∧ sp [.ref a] H (fun v H' => ∃ n : Int, v = .int n ∧ (0 ≤ n ∧ n < 2 ^ 63) ∧ Q (.int n) H') E
theorem call_lenO (F : FnOk X.prog X.w X.K X.mg X.base CX n f fd ps sp) (hs : PySem.W.findIn X.K (.ref C) "__len__" = some (some (.ref f))) (hf : PySem.W.isFn X.K (.ref f) = true) (hb : Binds X.K fd ps []) (hx : Passes CX X E) (hr : Room (n + 1) X.A) :
    CallR X (.builtin "len") (rLenO C sp E) := by
  intro pins s σ H xs us Q I rs hq
  obtain ⟨a, dx, fs, rfl, ha, hsp⟩ := hq
  obtain ⟨u, rfl, r1⟩ := vals1 rs
  cases r1
  obtain ⟨mA, J, _⟩ := ins_get I.hok ha
  obtain ⟨od, J, _⟩ := J.look
  obtain ⟨m, hF⟩ := I.fr
  refine PySem.W.len_K hF I.ok.mod.kin J hs hf ?_
  have hl := F.len _ _ _ _ hsp
  have r2 : Vals [V.ref a] [Value.ref a] := .cons rfl .nil
  refine wpAny_call (codeAny_mono (F.run X.A.in1 X.stack s H ⟨[.ref a], []⟩ [.ref a] [.ref a] _ E hr.in1 (I.env1 _ rfl) (by
    have := hb s [.ref a] I.kIn (by simpa using hl)
    simpa using this) r2 hsp) fun r s' hq => ?_)
  cases r with
  | error e => exact hx pins σ H s e s' I hq
  | ok fl =>
    cases fl with
    | ret w =>
      obtain ⟨z, H', I', rz, y, ez, hy, ex⟩ := I.after hq
      subst ez
      obtain ⟨t, rfl⟩ := rz
      exact ⟨hy, .int y, H', I'.tok _, ⟨_, rfl⟩, ex⟩
    | next => exact False.elim hq
    | brk => exact False.elim hq
    | cont => exact False.elim hq
/-- repr(x) by the own __repr__ -/
theorem call_reprO (F : FnOk X.prog X.w X.K X.mg X.base CX n f fd ps sp) (hs : PySem.W.findIn X.K (.ref C) "__repr__" = some (some (.ref f))) (hf : PySem.W.isFn X.K (.ref f) = true) (hb : Binds X.K fd ps []) (hx : Passes CX X E) (hr : Room (n + 1) X.A) :
    CallR X (.builtin "repr") (rStrO C sp E) := by
  intro pins s σ H xs us Q I rs hq
  obtain ⟨a, dx, fs, rfl, ha, hsp⟩ := hq
  obtain ⟨u, rfl, r1⟩ := vals1 rs
  cases r1
  obtain ⟨mA, J, _⟩ := ins_get I.hok ha
  obtain ⟨od, J, _⟩ := J.look
  obtain ⟨m, hF⟩ := I.fr
  refine PySem.W.repr_K hr.in1.units0 hF I.ok.mod.kin J hs hf ?_
  have hl := F.len _ _ _ _ hsp
  have r2 : Vals [V.ref a] [Value.ref a] := .cons rfl .nil
  refine wpAny_call (codeAny_mono (F.run X.A.in1 X.stack s H ⟨[.ref a], []⟩ [.ref a] [.ref a] _ E hr.in1 (I.env1 _ rfl) (by
    have := hb s [.ref a] I.kIn (by simpa using hl)
    simpa using this) r2 hsp) fun r s' hq => ?_)
  cases r with
  | error e => exact hx pins σ H s e s' I hq
  | ok fl =>
    cases fl with
    | ret w =>
      obtain ⟨z, H', I', rz, y, ez, ex⟩ := I.after hq
      subst ez
      obtain ⟨t, rfl⟩ := rz
      exact ⟨.str y, H', I', ⟨t, rfl⟩, ex⟩
    | next => exact False.elim hq
    | brk => exact False.elim hq
    | cont => exact False.elim hq
/-- bool(x) by the own __len__ -/
def rBoolO (C : Addr) (sp : Sp) (E : XK) : List V → Hp → VK → Prop := fun xs H Q => ∃ a dx fs, xs = [.ref a] ∧ H a = some (.ins C dx fs) ∧ sp [.ref a] H (fun v H' => ∃ n : Int, v = .int n ∧ (0 ≤ n ∧ n < 2 ^ 63) ∧ Q (.bl (n != 0)) H') E
theorem call_boolO (F : FnOk X.prog X.w X.K X.mg X.base CX n f fd ps sp) (hno : PySem.W.findIn X.K (.ref C) "__bool__" = some none) (hs : PySem.W.findIn X.K (.ref C) "__len__" = some (some (.ref f))) (hf : PySem.W.isFn X.K (.ref f) = true) (hb : Binds X.K fd ps []) (hx : Passes CX X E) (hr : Room (n + 3) X.A) :
    CallR X (.type "bool") (rBoolO C sp E) := by
  intro pins s σ H xs us Q I rs hq
  obtain ⟨a, dx, fs, rfl, ha, hsp⟩ := hq
  obtain ⟨u, rfl, r1⟩ := vals1 rs
  cases r1
  obtain ⟨mA, J, _⟩ := ins_get I.hok ha
  obtain ⟨od, J, _⟩ := J.look
  obtain ⟨m, hF⟩ := I.fr
  refine PySem.W.bool_call (PySem.W.truthy_L hF I.ok.mod.kin J hno hs hf ?_)
  have hl := F.len _ _ _ _ hsp
  have r2 : Vals [V.ref a] [Value.ref a] := .cons rfl .nil
  refine wpAny_call (codeAny_mono (F.run X.A.in1.in1.in1 X.stack s H ⟨[.ref a], []⟩ [.ref a] [.ref a] _ E hr.in1.in1.in1 (I.env1 _ rfl) (by
    have := hb s [.ref a] I.kIn (by simpa using hl)
    simpa using this) r2 hsp) fun r s' hq => ?_)
  cases r with
  | error e => exact hx pins σ H s e s' I hq
  | ok fl =>
    cases fl with
    | ret w =>
      obtain ⟨z, H', I', rz, y, ez, hy, ex⟩ := I.after hq
      subst ez
      obtain ⟨t, rfl⟩ := rz
      exact ⟨hy, _, _, rfl, .bl (y != 0), H', I'.tok _, rfl, ex⟩
    | next => exact False.elim hq
    | brk => exact False.elim hq
    | cont => exact False.elim hq
/-- x == y, y of any kind, by the own __eq__ of x -/
def rEqO (K : PySem.W.Frag) (C : Addr) (sp : Sp) (E : XK) : R2 := fun x y H Q => ∃ a dx fs t, x = .ref a ∧ H a = some (.ins C dx fs) ∧ TyX K H y t ∧ PySem.W.notFirst K C t = true ∧ sp [.ref a, y] H (fun v H' => ∃ r : Bool, v = .bl r ∧ Q (.bl r) H') E
theorem op_eqO (F : FnOk X.prog X.w X.K X.mg X.base CX n f fd ps sp) (hs : PySem.W.findIn X.K (.ref C) "__eq__" = some (some (.ref f))) (hf : PySem.W.isFn X.K (.ref f) = true) (hb : Binds X.K fd ps []) (hx : Passes CX X E) (hr : Room n X.A) : OpR X (compareOp .Eq) (rEqO X.K C sp E) := by
  intro pins s σ H x y u v Q I rx ry hq
  obtain ⟨a, dx, fs, t, rfl, ha, ty, nf, hsp⟩ := hq
  cases rx
  obtain ⟨mA, J, _⟩ := ins_get I.hok ha
  obtain ⟨od, J, _⟩ := J.look
  obtain ⟨m, hF⟩ := I.fr
  obtain ⟨P, Z, p, _⟩ := kit_of I ry ty
  show wpAny (model X.prog X.w) X.A (richCompare .Eq (.ref a) v) (EP X pins σ Q) X.xe s
  refine PySem.W.cmp_K (op := .Eq) (tb := t) hr.units0 hF I.ok.mod.kin J (Z.ty _ _ I.kIn p) nf hs hf ?_
  have hl := F.len _ _ _ _ hsp
  have r2 : Vals [V.ref a, y] [Value.ref a, v] := .cons rfl (.cons ry .nil)
  refine wpAny_call (codeAny_mono (F.run X.A X.stack s H ⟨[.ref a, v], []⟩ [.ref a, v] [.ref a, y] _ E hr I.env0 (by
    have := hb s [.ref a, v] I.kIn (by simpa using hl)
    simpa using this) r2 hsp) fun r s' hq => ?_)
  cases r with
  | error e => exact hx pins σ H s e s' I hq
  | ok fl =>
    cases fl with
    | ret w =>
      obtain ⟨z, H', I', rz, r, ez, ex⟩ := I.after hq
      subst ez
      cases rz
      exact ⟨.bl r, H', I', rfl, ex⟩
    | next => exact False.elim hq
    | brk => exact False.elim hq
    | cont => exact False.elim hq
end
end L2
/-! __len__ of a map; lengths and signs of texts. -/
namespace L2.FK
open PySem PySem.Spec PyProof.Rows L2.FL FlT LamX TL
/-! ### how many places -/
def posA : Nat → List (List Pl) → List Pl
  | _, [] => []
  | k, row :: T => ((List.range row.length).map fun j : Nat => ((k : Int), (j : Int))) ++ posA (k + 1) T
theorem posA_len : ∀ (k : Nat) (T : List (List Pl)), (posA k T).length = T.flatten.length
  | _, [] => rfl
  | k, row :: T => by rw [posA, List.length_append, List.length_map, List.length_range, posA_len, List.flatten_cons, List.length_append]
theorem posA_mem : ∀ {T : List (List Pl)} {k : Nat} {p : Pl}, p ∈ posA k T ↔ ∃ (i j : Nat) (row : List Pl), p = (((k + i : Nat) : Int), (j : Int)) ∧ T[i]? = some row ∧ j < row.length
  | [], _, _ => ⟨(fun h => nomatch h), (fun ⟨i, j, row, _, e, _⟩ => by simp at e)⟩
  | row :: T, k, p => by
    rw [posA, List.mem_append]
    constructor
    · rintro (h | h)
      · obtain ⟨j, hj, rfl⟩ := List.mem_map.mp h
        exact ⟨0, j, row, rfl, rfl, List.mem_range.mp hj⟩
      · obtain ⟨i, j, r, rfl, e, hj⟩ := posA_mem.mp h
        exact ⟨i + 1, j, r, by rw [show k + 1 + i = k + (i + 1) by omega], e, hj⟩
    · rintro ⟨i, j, r, rfl, e, hj⟩
      cases i with
      | zero => cases e; exact .inl (List.mem_map.mpr ⟨j, List.mem_range.mpr hj, rfl⟩)
      | succ i => exact .inr (posA_mem.mpr ⟨i, j, r, by rw [show k + 1 + i = k + (i + 1) by omega], e, hj⟩)
theorem posA_nd : ∀ (k : Nat) (T : List (List Pl)), (posA k T).Nodup
  | _, [] => List.nodup_nil
  | k, row :: T => by
    refine List.nodup_append.mpr ⟨?_, posA_nd (k + 1) T, fun x hx y hy => ?_⟩
    · rw [List.nodup_iff_pairwise_ne, List.pairwise_map]
      exact (List.nodup_range (n := row.length)).imp fun hne z => hne (by injection z with _ z; exact Int.ofNat.inj z)
    · obtain ⟨j, _, rfl⟩ := List.mem_map.mp hx
      obtain ⟨i, j', r, rfl, _⟩ := posA_mem.mp hy
      intro e
      injection e with e _
      omega
theorem rep_len {H : Hp} {T : List (List Pl)} {im : List (List Key × V)} (r : Rep H im (fun p q => inner T p = some q)) (nd : (im.map (·.1)).Nodup) : im.length = T.flatten.length := by
  rw [← posA_len 0 T]
  have mem : ∀ p : Pl, p ∈ posA 0 T ↔ ∃ q, inner T p = some q := fun p => by
    rw [posA_mem]
    constructor
    · rintro ⟨i, j, row, rfl, e, hj⟩
      exact ⟨_, by rw [Nat.zero_add, inner_at e]; exact List.getElem?_eq_getElem hj⟩
    · rintro ⟨q, h⟩
      obtain ⟨i, j, row, rfl, e, e2⟩ := inner_some h
      exact ⟨i, j, row, by rw [Nat.zero_add], e, (List.getElem?_eq_some_iff.mp e2).1⟩
  let un : List Key → Pl := fun k => match k with | [.inl a, .inl b] => (a, b) | _ => (0, 0)
  refine Nat.le_antisymm ?_ ?_
  · have z := nodup_sub_len (l := im.map fun kv => un kv.1) (m := posA 0 T) ?_ fun x hx => ?_
    · rw [List.length_map] at z; exact z
    · rw [show (im.map fun kv => un kv.1) = (im.map (·.1)).map un by rw [List.map_map]; rfl, List.nodup_iff_pairwise_ne, List.pairwise_map]
      refine List.Pairwise.imp_of_mem (fun ha hb hne z => ?_) (List.nodup_iff_pairwise_ne.mp nd)
      obtain ⟨kv, hkv, rfl⟩ := List.mem_map.mp ha
      obtain ⟨kw, hkw, rfl⟩ := List.mem_map.mp hb
      obtain ⟨p, q, e, _⟩ := r.only kv hkv
      obtain ⟨p', q', e', _⟩ := r.only kw hkw
      rw [e, e'] at z hne
      have z : p = p' := z
      exact hne (by rw [z])
    · obtain ⟨kv, hkv, rfl⟩ := List.mem_map.mp hx
      obtain ⟨p, q, e, h, _⟩ := r.only kv hkv
      rw [e]
      exact (mem p).mpr ⟨q, h⟩
  · have z := nodup_sub_len (l := posA 0 T) (m := im.map fun kv => un kv.1) (posA_nd 0 T) fun x hx => by
      obtain ⟨q, h⟩ := (mem x).mp hx
      obtain ⟨v, hv, _⟩ := r.has x q h
      obtain ⟨kv, hkv, e⟩ := List.mem_map.mp (valV_in hv)
      exact List.mem_map.mpr ⟨kv, hkv, by rw [e]; rfl⟩
    rw [List.length_map] at z; exact z
/-- len of a dict with tuples as keys, and that its keys differ -/
def rLenN : List V → Hp → VK → Prop := fun xs H Q => ∃ (p : Addr) (kvs : List (List Key × V)), xs = [.ref p] ∧ H p = some (.dT kvs) ∧ ((kvs.map (·.1)).Nodup → Q (.int ((kvs.length : Nat) : Int)) H)
theorem call_len_dN {X : Cx} : CallR X (.builtin "len") rLenN := by
  intro pins s σ H xs us Q I r h
  obtain ⟨p, kvs, rfl, hp, q⟩ := h
  refine call_len_dT pins s σ H [.ref p] us Q I r ⟨p, kvs, rfl, hp, q ?_⟩
  obtain ⟨_, _, xs, rel, dd⟩ := dt_of I.hok hp
  obtain ⟨_, _, _, _, _, _, _, _, nd⟩ := dd
  have gen : ∀ {l : List (List Key × V)} {m : List (List Key × Addr × Value)}, KT H l m → l.map (·.1) = m.map (·.1) := by
    intro l m q
    induction q with
    | nil => rfl
    | cons a t ih => rw [List.map_cons, List.map_cons, ih, a.1]
  rw [gen rel]; exact nd
section
variable {P : Program} {w : World} {K : PySem.W.Frag} {mg : Str → Option Value} {base : Heap} {C : Addr} {TT : List (Addr × Str)}
abbrev sLen : Stmt := inClass sMap 8
def spLen (C : Addr) : Sp := fun vs H Q _ => ∃ (v : V) (ds : List Int) (T : List (List Pl)), vs = [v] ∧ LMap C H v ds T ∧ Q (.int (T.flatten.length : Nat)) H
theorem sc_len : FnScope ["self"] ["self"] (C8.fnScope sLen) := C8.fnScope_by (by decide +kernel)
theorem ok_lenm {f : Addr} {fd : FuncData} (X : Tx K mg C) (B : Bl mg) (F : C8.Fun K "__len__" "LaneMap.__len__" sLen f fd) : FnOk P w K mg base C8.CX0 1 f fd ["self"] (spLen C) := by
  refine C8.fn0 F sc_len (fun vs H Q E z => ?_) (fun cdv A outer s H vs Q E hr z => ?_)
  · obtain ⟨v, ds, T, rfl, _⟩ := z; rfl
  obtain ⟨v, ds, T, rfl, ⟨p, dx, a1, v2, a3, a4, im, og, rfl, h1, h2, h3, h4, h5, h6, h7⟩, q⟩ := z
  refine ⟨_, pss_one (ps_ret (pe_callB call_len_dN (by rfl) B.len bt_len (pa_cons (pe_fld (pv 0) rfl) pa_nil))), ?_⟩
  refine ⟨_, rfl, p, C, dx, _, _, rfl, h1, X.cl, X.nI, rfl, a3, im, rfl, h4, fun nd => ?_⟩
  rw [rep_len h5 nd]
  exact q
end
/-! ### lengths of maps' texts -/
theorem partS_le {d : Int} {row : List Pl} (hd : d.natAbs < 10 ^ 31) (h : ∀ p ∈ row, Num31 p) : (partS d row).length ≤ 33 + 66 * row.length := by
  unfold partS
  have z := join_len (Str.ofString " ") (numS d :: row.map plS)
  have n1 := numS_len (k := 31) (by decide) hd
  have n2 := pls_sum h
  have n3 : (Str.ofString " ").length = 1 := by rw [len_tl, tl_sp]; rfl
  rw [List.map_cons, List.sum_cons, List.length_cons, List.length_map, n3] at z
  omega
theorem mapS_le {R : Nat} {ds : List Int} {T : List (List Pl)} (W : Wr ds T) (h : ∀ row ∈ T, row.length ≤ R) : (mapS ds T).length ≤ 6 * (36 + 66 * R) := by
  unfold mapS
  have z := join_len (Str.ofString " | ") (List.zipWith partS ds T)
  have n3 : (Str.ofString " | ").length = 3 := by rw [len_tl, tl_bar]; rfl
  have gen : ∀ {ds : List Int} {T : List (List Pl)}, (∀ d ∈ ds, d.natAbs < 10 ^ 31) → (∀ row ∈ T, row.length ≤ R ∧ ∀ p ∈ row, Num31 p) → ((List.zipWith partS ds T).map (·.length)).sum ≤ (33 + 66 * R) * ds.length := by
    intro ds
    induction ds with
    | nil => intro T _ _; simp
    | cons d ds ih =>
      intro T h1 h2
      cases T with
      | nil => simp
      | cons row T =>
        have a := partS_le (d := d) (row := row) (h1 d List.mem_cons_self) (h2 row List.mem_cons_self).2
        have b := ih (T := T) (fun x hx => h1 x (List.mem_cons_of_mem _ hx)) (fun x hx => h2 x (List.mem_cons_of_mem _ hx))
        have c := (h2 row List.mem_cons_self).1
        have e : 66 * row.length ≤ 66 * R := Nat.mul_le_mul_left _ c
        rw [List.zipWith_cons_cons, List.map_cons, List.sum_cons, List.length_cons, Nat.mul_succ]
        omega
  have y := gen (ds := ds) (T := T) (fun d hd => Nat.lt_trans (W.dr d hd) (by decide)) fun row hr => ⟨h row hr, (W.num31 hr).2⟩
  have zl : (List.zipWith partS ds T).length = ds.length := by rw [List.length_zipWith, W.len, Nat.min_self]
  have w6 := W.hi
  rw [zl, n3] at z
  have e : (33 + 66 * R) * ds.length ≤ (33 + 66 * R) * 6 := Nat.mul_le_mul_left _ w6
  omega
theorem asc_join {S : Str} (hS : Asc S) {L : List Str} (h : ∀ p ∈ L, Asc p) : Asc (Str.join S L) := fun c hc => by
  rw [tl_join] at hc
  have gen : ∀ {l : List (List Nat)}, (∀ p ∈ l, ∀ c ∈ p, c < 128) → ∀ c ∈ joinL (tl S) l, c < 128 := by
    intro l
    induction l with
    | nil => intro _ c hc; cases hc
    | cons x xs ih =>
      intro h c hc
      cases xs with
      | nil => exact h x List.mem_cons_self c hc
      | cons y ys =>
        have e : joinL (tl S) (x :: y :: ys) = x ++ (tl S ++ joinL (tl S) (y :: ys)) := rfl
        rw [e, List.mem_append, List.mem_append] at hc
        rcases hc with hc | hc | hc
        · exact h x List.mem_cons_self c hc
        · exact hS c hc
        · exact ih (fun p hp => h p (List.mem_cons_of_mem _ hp)) c hc
  refine gen (fun p hp => ?_) c hc
  obtain ⟨q, hq, rfl⟩ := List.mem_map.mp hp
  exact h q hq
theorem partS_asc (d : Int) (row : List Pl) : Asc (partS d row) := asc_join (fun c hc => by rw [tl_sp] at hc; simp at hc; omega) fun p hp => by
  rcases List.mem_cons.mp hp with rfl | hp
  · exact numS_asc d
  · obtain ⟨q, _, rfl⟩ := List.mem_map.mp hp; exact plS_asc q
theorem mapS_asc (ds : List Int) (T : List (List Pl)) : Asc (mapS ds T) := asc_join (fun c hc => by rw [tl_bar] at hc; simp at hc; omega) fun p hp => by
  obtain ⟨i, hi, e⟩ := List.mem_iff_getElem.mp hp
  rw [List.getElem_zipWith] at e
  rw [← e]; exact partS_asc _ _
/-- how many places a text that reads can bear -/
theorem joinL_sum {S : List Nat} : ∀ (L : List (List Nat)), (L.map List.length).sum ≤ (joinL S L).length
  | [] => by simp
  | [x] => by simp [joinL]
  | x :: y :: ys => by
    have e : joinL S (x :: y :: ys) = x ++ (S ++ joinL S (y :: ys)) := rfl
    have z := joinL_sum (S := S) (y :: ys)
    rw [e, List.length_append, List.length_append, List.map_cons, List.sum_cons]
    omega
theorem AllRd.flat {t : Str} {xs : List (Int × List Pl)} (h : AllRd (Txt.split t (Str.ofString " | ")) xs) : (rwX xs).flatten.length ≤ t.length := by
  have z := joinL_sum (S := [32, 124, 32]) ((Txt.split t (Str.ofString " | ")).map tl)
  rw [bar_back, ← len_tl, List.map_map] at z
  refine Nat.le_trans ?_ z
  have gen : ∀ {ps : List Str} {xs : List (Int × List Pl)}, AllRd ps xs → (rwX xs).flatten.length ≤ (ps.map (List.length ∘ tl)).sum := by
    intro ps
    induction ps with
    | nil => intro xs h; rw [List.length_eq_zero_iff.mp h.1]; exact Nat.le_refl _
    | cons p ps ih =>
      intro xs h
      cases xs with
      | nil => cases h.1
      | cons x xs =>
        have a := h.2 0 p x rfl rfl
        have b := ih (xs := xs) ⟨Nat.succ.inj h.1, fun i q y hq hy => h.2 (i + 1) q y hq hy⟩
        have c := split_len (t := p)
        rw [a.1, split_part, List.length_cons, List.length_map] at c
        have e : (tl p).length = (partS x.1 x.2).length := by rw [← len_tl, ← a.1]
        show (x.2 ++ (rwX xs).flatten).length ≤ _
        rw [List.length_append, List.map_cons, List.sum_cons]
        show _ ≤ (tl p).length + _
        omega
  exact gen h
end L2.FK
/-! A lambda without parameters that may raise, handed to a def that hands it on: a function of its own over a larger fixed heap. -/
namespace FlT
open PySem PySem.Spec PyProof.Rows L2 LamX
/-- the names of a lambda without parameters: captured ones, globals -/
structure Lam0 (sc scope : Scope) : Prop where
  kind : scope.kind = .function
  co : scope.isCoroutine = false
  gen : scope.isGenerator = false
  noc : ∀ y ∈ scope.names, y.2 ≠ .cell
  free : ∀ y ∈ scope.names, y.2 = .free → sc.names.lookup y.1 = some .cell ∨ sc.names.lookup y.1 = some .free
def lam0B (sc scope : Scope) : Bool :=
  decide (scope.kind = .function) && (!scope.isCoroutine && (!scope.isGenerator && scope.names.all fun y =>
    !decide (y.2 = .cell) && (!decide (y.2 = .free) || (decide (sc.names.lookup y.1 = some .cell) || decide (sc.names.lookup y.1 = some .free)))))
theorem lam0_by {sc scope : Scope} (h : lam0B sc scope = true) : Lam0 sc scope := by
  unfold lam0B at h
  simp only [Bool.and_eq_true, Bool.or_eq_true, Bool.not_eq_true', decide_eq_true_eq, decide_eq_false_iff_not, List.all_eq_true] at h
  obtain ⟨a, b, c, e⟩ := h
  exact ⟨a, b, c, fun y hy => (e y hy).1, fun y hy z => (e y hy).2.resolve_left (fun q => q z)⟩
/-- the context of such a lambda's body; what leaves it bears the context None -/
def lamCr (P : Program) (w : World) (K : PySem.W.Frag) (mg : Str → Option Value) (base : Heap) (A : Around) (outer : List Env) (s : Shared) (H : Hp) (E : XK) (N : List Str) (q : Str) (scope : Scope) (f c' : Addr) (cl : List (Str × Addr)) : Cx :=
  { lamC P w K mg base A outer s H N q scope f c' cl with xe := fun e t => wpAny (model P w) (A.deeper (PySem.W.envX q scope s.heap.objs.size f (.ref c') cl)) (leaving (PySem.W.envX q scope s.heap.objs.size f (.ref c') cl) e) (fun _ u => L2N.CX P w outer H s E e u) (fun e' u => L2N.CX P w outer H s E e' u) t }
theorem lamCr_takes {P : Program} {w : World} {K : PySem.W.Frag} {mg : Str → Option Value} {base : Heap} {A : Around} {outer : List Env} {s : Shared} {H : Hp} {E : XK} {N : List Str} {q : Str} {scope : Scope} {f c' : Addr} {cl : List (Str × Addr)} :
    L2N.Takes (lamCr P w K mg base A outer s H E N q scope f c' cl) (fun cls d _ H => E cls d H) := L2N.takes_of rfl rfl rfl rfl
section
variable {P : Program} {w : World} {K : PySem.W.Frag} {mg : Str → Option Value} {base : Heap} {A : Around} {outer : List Env} {s : Shared} {H : Hp} {q : Str} {scope sc : Scope} {f c' : Addr} {cl : List (Str × Addr)} {Nf : List Str} {xs : List V} {E : XK}
theorem lam_start0 {h₁ : Heap} {tk : Nat} (L : Lam0 sc scope) (C : Caps base scope cl Nf xs) (e0 : Env0 P w K mg base A outer s H) (calm : A.handled = none)
    (hns : ∃ m, h₁.Ns s.heap.objs.size m) (kp : ∀ b o, s.heap.get? b = some o → h₁.get? b = some o) :
    Inv (lamCr P w K mg base A outer s H E Nf q scope f c' cl) [] (xs.map some) H { s with heap := h₁, toks := tk } := by
  obtain ⟨m, hns⟩ := hns
  have noX : ∀ b : Addr, b ∉ (lamCr P w K mg base A outer s H E Nf q scope f c' cl).ex := fun b z => absurd (show b ∈ ([] : List Addr) from z) (by simp)
  have cellAt : ∀ y c, cl.lookup y = some c → ∃ v', h₁.IsCell c v' ∧ H c = none := fun y c e => by
    obtain ⟨v', z⟩ := C.cell y c e
    exact ⟨v', cells_of e0.bs kp z⟩
  refine ⟨⟨e0.mod, L.kind, rfl, rfl, Nat.le_refl _, C.inj, fun y hy => ?_, fun y c z _ => Bool.noConfusion (show false = true from z), fun _ => calm, Around.frames_deeper e0.frames, .inr ⟨rfl, rfl⟩, fun b z => absurd z (noX b), e0.bs, e0.bsz, fun b _ _ => noX b,
      fun b z => absurd z (noX b), e0.funs, e0.frf⟩,
    rfl, e0.bare, Un.kept kp, ⟨m, hns, fun i y x e1 e2 e3 => ?_⟩, fun y c e => ?_, e0.hok.fresh (Nat.le_refl _), fun y c e => ?_, fun q hq => absurd (show q ∈ ([] : List (Addr × Obj)) ++ [] from hq) (by simp), e0.hok.kept kp, ?_⟩
  · rcases (show scope.names.lookup y = some .cell ∨ scope.names.lookup y = some .free from hy) with k | k
    · exact absurd rfl (L.noc _ (PySem.mem_of_lookup k))
    · exact C.has y k
  · have e1 : Nf[i]? = some y := e1
    have e2 : (xs.map some)[i]? = some (some x) := e2
    rw [List.getElem?_map] at e2
    cases z : xs[i]? with
    | none => rw [z] at e2; cases e2
    | some x' =>
      rw [z] at e2
      cases e2
      obtain ⟨k, c, u', h1, h2, h3⟩ := C.at_ i y x e1 z
      exact ⟨u', h3, .inr ⟨.inr k, c, h1, (cells_of e0.bs kp h2).1⟩⟩
  · obtain ⟨v', z, _⟩ := cellAt y c e
    exact ⟨v', z⟩
  · obtain ⟨v', _, z⟩ := cellAt y c e
    exact z
  · show (xs.map some).length = Nf.length
    rw [List.length_map, C.len]
/-- what such a lambda promises -/
def spL0 (tb : XK → TE) (c' : Addr) (q : Str) (xs : List V) : Sp := fun vs H Q E => vs = [] ∧ H c' = some (CodeO c' q) ∧ tb E (xs.map some) H Q
theorem lam_ok0 {k : Nat} {params : Arguments} {body : Expr} {doc pm ctv : Value} {tb : XK → TE} (L : Lam0 sc scope) (C : Caps base scope cl Nf xs)
    (hf : base.get? f = some { cls := .type "function", data := .func (lamF q params body scope cl .none doc pm c' ctv) })
    (hbody : ∀ (A : Around) (outer : List Env) (s : Shared) (H : Hp) (E : XK), Room k (A.deeper (PySem.W.envX q scope s.heap.objs.size f (.ref c') cl)) → PE (lamCr P w K mg base A outer s H E Nf q scope f c' cl) body (tb E)) :
    FnOk P w K mg base (L2N.CX P w) (k + 1) f (lamF q params body scope cl .none doc pm c' ctv) [] (spL0 tb c' q xs) where
  len := fun vs H Q E z => by rw [z.1]; rfl
  run := fun A outer s H args us vs Q E room e0 hb r wish => by
    obtain ⟨rfl, code, wish⟩ := wish
    cases r
    obtain ⟨⟨oc, ws, t, hoc, hdc, hvc⟩, _, _⟩ := e0.hok c' _ code
    refine PySem.W.kla_callFunE room.depth (e0.bs _ _ hf).1 rfl L.co L.gen rfl ⟨c', oc, ws, t, rfl, hoc, hdc, hvc⟩ (hb _ _ _ _ ?_)
    have lim : s.heap.NoLimit := e0.mod.nolimit.keeps fun b o z => (e0.bs b o z).1
    refine wpAny_newFunctionEnv L.noc (fun y hy => absurd hy (by simp)) (fun h₁ hns hsb => ⟨lim.fresh _ hsb, ?_⟩) L.kind
    show codeAny _ _ (.expr body (PySem.W.envX q scope s.heap.objs.size f (.ref c') cl)) _ _
    have kp : ∀ b o, s.heap.get? b = some o → h₁.get? b = some o := fun b o e => hsb.extBut b o (Nat.ne_of_lt (Heap.lt_size e)) (Heap.get?_push_of_some _ e)
    have J := lam_start0 (E := E) (q := q) (f := f) (c' := c') (tk := s.toks + ([] : List (Str × Value)).length) L C e0 room.hd ⟨_, hns⟩ kp
    refine PySem.W.kla_codeExpr (wpAny_mono ((hbody A outer s H E (room.deeper _)).run [] _ _ H Q J wish) (fun v2 t2 ⟨w', H', J', rv', q'⟩ => ?_) fun e t2 z => z)
    exact ⟨w', H', J'.os, J'.bare, J'.base, J'.hok, rv', q'⟩
end
/-- a local name that holds a function without parameters, called where exceptions are taken -/
theorem pe_fn0 {Y : Cx} {k j i : Nat} {f : Addr} {fd : FuncData} {a : Str} {sp : Sp} {p1 p2 : Pos} {oc : Value} {od : Option Addr} {sl : Array (Option Value)} {W : WX} {E : XK} (F : FnOk Y.prog Y.w Y.K Y.mg Y.base (L2N.CX Y.prog Y.w) k f fd [] sp) (hf : Y.base.get? f = some ⟨oc, od, .func fd, sl⟩)
    (bind : bindArgs fd ⟨[], []⟩ = pure []) (tk : L2N.Takes Y W) (hW : ∀ cls d σ H, E cls d H → W cls d σ H) (room : Room j Y.A) (hk : k ≤ j) (hN : Y.N[i]? = some a) (hv : Vis Y.env.scope a)
    (hd : (a == ("__debug__" : Str)) = false := by decide) (hcd : (a == ("__classdict__" : Str)) = false := by decide) :
    PE Y (.Call (.Name a p1) [] [] p2) (fun σ H Q => σ[i]? = some (some (.ref f)) ∧ sp [] H Q E) := by
  refine ⟨fun pins s σ H Q I ⟨slot, wish⟩ => ?_⟩
  refine wpAny_Call_Name_kw (thn ((pe_var (pos := p1) (i := i) hN hv hd hcd).run pins s σ H (fun v H1 => v = .ref f ∧ H1 = H) I ⟨.ref f, slot, rfl, rfl⟩) fun u t1 ⟨v, H1, I1, r1, ev, eH⟩ => ?_)
  subst ev
  rw [eH] at I1
  obtain rfl : u = Value.ref f := r1
  refine PySem.W.callWith_F0 ⟨_, _, _, _, (I1.bs _ _ hf).1⟩ ?_
  refine wpAny_call (codeAny_mono (F.run Y.A Y.stack t1 H ⟨[], []⟩ [] [] Q E (room.mono hk) I1.env0 (BindsTo.of_eq bind) .nil wish) fun r t3 z => ?_)
  match r, z with
  | .error e, z => exact L2N.passes_call tk hW pins σ H t1 e t3 I1 z
  | .ok (.ret u), z => exact I1.after z
  | .ok .next, z => exact z.elim
  | .ok .brk, z => exact z.elim
  | .ok .cont, z => exact z.elim
theorem pick_ok {σ : L2.St} {js : List Nat} {xs : List V} (h : js.map (fun j => σ[j]?) = xs.map fun x => some (some x)) : ∀ (i : Nat) j, js[i]? = some j → ∃ y, xs[i]? = some y ∧ σ[j]? = some (some y) := fun i j e => by
  have z := congrArg (fun l => l[i]?) h
  simp only [List.getElem?_map, e, Option.map_some] at z
  cases q : xs[i]? with
  | none => rw [q] at z; cases z
  | some y => rw [q] at z; exact ⟨y, rfl, by simpa using z⟩
theorem nf_ok {N Nf : List Str} {js : List Nat} {scope : Scope} (h : (Nf.all fun y => decide (scope.names.lookup y = some .free)) = true) (h2 : js.map (fun j => N[j]?) = Nf.map some) : ∀ (i : Nat) y, Nf[i]? = some y → scope.names.lookup y = some .free ∧ ∃ j, js[i]? = some j ∧ N[j]? = some y := fun i y e => by
  refine ⟨of_decide_eq_true (List.all_eq_true.mp h y (List.mem_of_getElem? e)), ?_⟩
  have z := congrArg (fun l => l[i]?) h2
  simp only [List.getElem?_map, e, Option.map_some] at z
  cases q : js[i]? with
  | none => rw [q] at z; cases z
  | some j => rw [q] at z; exact ⟨j, rfl, by simpa using z⟩
/-- the promise in a form that may be weakened -/
def clsS (sp : Sp) : Sp := fun vs H Q E => ∃ (Q1 : VK) (E1 : XK), sp vs H Q1 E1 ∧ (∀ r H', Q1 r H' → Q r H') ∧ ∀ c d H', E1 c d H' → E c d H'
theorem fn_cls {P : Program} {w : World} {K : PySem.W.Frag} {mg : Str → Option Value} {base : Heap} {k : Nat} {f : Addr} {fd : FuncData} {ps : List Str} {sp : Sp} (F : FnOk P w K mg base (L2N.CX P w) k f fd ps sp) : FnOk P w K mg base (L2N.CX P w) k f fd ps (clsS sp) :=
  ⟨fun vs H Q E ⟨Q1, E1, h, _⟩ => F.len vs H Q1 E1 h, fun A outer s H args us vs Q E hr e0 hb r ⟨Q1, E1, h, hq, he⟩ => codeAny_mono (F.run A outer s H args us vs Q1 E1 hr e0 hb r h) fun out t q => by
    match out, q with
    | .error e, q =>
      obtain ⟨a, B, H', cls, d, r1, r2, r3, r4, r5, r6, r7, r8⟩ := q
      exact ⟨a, B, H', cls, d, r1, r2, r3, r4, r5, r6, r7, he _ _ _ r8⟩
    | .ok (.ret u), q =>
      obtain ⟨v, H', a1, a2, a3, a4, a5, a6⟩ := q
      exact ⟨v, H', a1, a2, a3, a4, a5, hq _ _ a6⟩
    | .ok .next, q => exact q.elim
    | .ok .brk, q => exact q.elim
    | .ok .cont, q => exact q.elim⟩
/-- x(lambda: body, e..): the wish -/
def tFw (T : List (Addr × Str)) (q : Str) (js : List Nat) (spW : Sp → Addr → Sp) (tb : XK → TE) (ta : TA) : TE := fun σ H Q =>
  ∃ xs : List V, xs.length = js.length ∧ (∀ (i : Nat) j, js[i]? = some j → ∃ y, xs[i]? = some y ∧ σ[j]? = some (some y)) ∧ Tabs T H ∧
    ∀ H3, ExtN H H3 → Tabs T H3 → ∀ f c', H3 c' = some (CodeO c' q) → ta σ H3 fun vs H4 => spW (spL0 tb c' q xs) f (.ref f :: vs) H4 Q C8.E0
section
variable {X : Cx}
theorem caps_of0 {pins : List (Addr × Obj)} {σ : L2.St} {H : Hp} {s : Shared} {base' : Heap} {scope : Scope} {Nf : List Str} {js : List Nat} {xs : List V} (I : Inv X pins σ H s) (L : Lam0 X.env.scope scope)
    (nf : ∀ (i : Nat) y, Nf[i]? = some y → scope.names.lookup y = some .free ∧ ∃ j, js[i]? = some j ∧ X.N[j]? = some y) (jl : js.length = Nf.length) (xl : xs.length = js.length) (hx : ∀ (i : Nat) j, js[i]? = some j → ∃ y, xs[i]? = some y ∧ σ[j]? = some (some y))
    (sub : ∀ b, b ∈ (cloFrom X.env.cells scope.names []).map (·.2) → ∀ o, s.heap.get? b = some o → base'.get? b = some o) : Caps base' scope (cloFrom X.env.cells scope.names []) Nf xs := by
  have up : ∀ {y c}, (cloFrom X.env.cells scope.names []).lookup y = some c → X.env.cells.lookup y = some c := fun {y c} e => by
    rcases cloFrom_mem (PySem.mem_of_lookup e) with z | ⟨z1, z2⟩
    · cases z
    · obtain ⟨c1, hc⟩ : ∃ c, X.env.cells.lookup y = some c := (L.free _ z1 rfl).elim (fun k => I.ok.has _ (.inl k)) fun k => I.ok.has _ (.inr k)
      have e2 : c = c1 := by
        rw [z2, hc] <;> rfl
      exact e2 ▸ hc
  have keep : ∀ {y c v}, (cloFrom X.env.cells scope.names []).lookup y = some c → s.heap.IsCell c v → base'.IsCell c v := fun {y c v} e ⟨o, ho, hd⟩ => ⟨o, sub c (List.mem_map.mpr ⟨(y, c), PySem.mem_of_lookup e, rfl⟩) o ho, hd⟩
  have down : ∀ {y}, scope.names.lookup y = some .free → ∃ c, (cloFrom X.env.cells scope.names []).lookup y = some c := fun {y} e =>
    mem_lookup (cloFrom_has (cells := X.env.cells) (acc := []) (show (y, NameKind.free) ∈ scope.names from PySem.mem_of_lookup e))
  refine ⟨by rw [xl, jl], fun y z c e1 e2 => I.ok.inj y z c (up e1) (up e2), fun y k => down k, fun y c e => ?_, fun i y x e1 e2 => ?_⟩
  · obtain ⟨v, z⟩ := I.cell y c (up e)
    exact ⟨v, keep e z⟩
  · obtain ⟨k, j, ej, en⟩ := nf i y e1
    obtain ⟨x', ex, es⟩ := hx i j ej
    rw [e2] at ex
    cases ex
    refine ⟨k, ?_⟩
    have out := L.free _ (PySem.mem_of_lookup k) rfl
    obtain ⟨m, hn, hl⟩ := I.loc
    obtain ⟨u, r, q⟩ := hl j y x en es (out.elim (fun k => .inr (.inl k)) (fun k => .inr (.inr k)))
    obtain ⟨c2, h2⟩ := down k
    refine ⟨c2, u, h2, ?_, r⟩
    have c1 := up h2
    rcases q with ⟨k', _⟩ | ⟨_, c3, e', z⟩
    · have k' : X.env.scope.names.lookup y = some .local := k'
      rcases out with k2 | k2 <;> rw [show X.env.scope.names.lookup y = _ from k2] at k' <;> cases k'
    · rw [c1] at e'
      cases e'
      exact keep h2 z
theorem pe_fw {T : List (Addr × Str)} {x a : Str} {as : List Str} {g c P : Addr} {kl kx : Nat} {fdx : FuncData} {params : Arguments} {body : Expr} {scope : Scope} {Nf : List Str} {js : List Nat} {tb : XK → TE} {es : List Expr} {ta : TA} {spW : Sp → Addr → Sp} {p lpos pos : Pos}
    (hg : Gl X x) (hm : X.mg x = some (.ref g)) (hk : PySem.W.keepIn X.K (.ref g) = true) (hb : L2.Binds X.K fdx (a :: as) []) (ha : PA X es ta)
    (TB : TabB X.base X.mg c P) (hcode : X.env.code = .ref c) (hmT : (P, X.env.qual ++ "<lambda>") ∈ T) (hu : ∀ p ∈ T, p.1 = P → p.2 = X.env.qual ++ "<lambda>") (hfn : ∀ y, X.fn y = true) (room : Room kx X.A)
    (L : Lam0 X.env.scope scope) (d0 : ∀ env, defaultsOf params env = ([], [])) (nf : ∀ (i : Nat) y, Nf[i]? = some y → scope.names.lookup y = some .free ∧ ∃ j, js[i]? = some j ∧ X.N[j]? = some y) (jl : js.length = Nf.length)
    (bindL : ∀ (q : Str) (cl : List (Str × Addr)) (doc pm ctv : Value) (c' : Addr), bindArgs (lamF q params body scope cl .none doc pm c' ctv) ⟨[], []⟩ = pure [])
    (hbody : ∀ (base' : Heap) (f c' : Addr) (cl : List (Str × Addr)) (A : Around) (outer : List Env) (s : Shared) (H : Hp) (E : XK), Room kl (A.deeper (PySem.W.envX (X.env.qual ++ "<lambda>") scope s.heap.objs.size f (.ref c') cl)) →
      PE (lamCr X.prog X.w X.K X.mg base' A outer s H E Nf (X.env.qual ++ "<lambda>") scope f c' cl) body (tb E))
    (hx : ∀ (base' : Heap) (f : Addr) (fdL : FuncData) (spF : Sp) (oc : Value) (od : Option Addr) (sl : Array (Option Value)), FnOk X.prog X.w X.K X.mg base' (L2N.CX X.prog X.w) (kl + 1) f fdL [] spF → base'.get? f = some ⟨oc, od, .func fdL, sl⟩ →
      bindArgs fdL ⟨[], []⟩ = pure [] → FnOk X.prog X.w X.K X.mg base' C8.CX0 kx g fdx (a :: as) (spW spF f))
    (hdb : (x == ("__debug__" : Str)) = false := by decide) (he : starEach (.Lambda params body scope lpos :: es) X.env = (false, eval (.Lambda params body scope lpos) X.env) :: starEach es X.env := by rfl)
    (hpl : (backTo pos (starEach es X.env)).any (·.1) = false := by rfl) :
    PE X (.Call (.Name x p) (.Lambda params body scope lpos :: es) [] pos) (tFw T (X.env.qual ++ "<lambda>") js spW tb ta) := by
  refine ⟨fun pins s σ H Q I ⟨xs, xl, hxs, hT, wish⟩ => wpAny_Call_Name_kw (ld_glob I hg hm ?_ hdb)⟩
  refine PySem.W.callWith_K (h₀ := X.base) I.ok.mod.kin hk ?_ he hpl
  refine spliced_more ?_ he
  rw [arm_eval_Lambda, d0]
  refine wpAny_bind (wpAny_pure (wpAny_bind (wpAny_holding (wpAny_pure ?_))))
  rw [makeFunction_eq]
  simp only [List.zip_nil_right, List.filterMap_nil, List.isEmpty_nil, if_true, pure_bind]
  have hfree : ∀ y ∈ scope.names, y.2 = .free → ∃ c, X.env.cells.lookup y.1 = some c := fun y hy e => (L.free y hy e).elim (fun k => I.ok.has _ (.inl k)) fun k => I.ok.has _ (.inr k)
  refine lam_tail I TB hcode hmT hu hT hfree fun f c' doc pm ctv H3 s3 I3 e3 T3 st gf nfr off hc => ?_
  have hff : f ∉ X.fs := fun z => off (by
    rcases I3.ok.stk with e | ⟨e, hf⟩
    · rw [e]; exact z
    · rw [e]; unfold frs; rw [List.filterMap_cons, hf]; exact List.mem_cons_of_mem _ z)
  have hfl : f ≠ X.env.locals := fun z => by
    obtain ⟨m, ⟨o', es', ep, ho', hd', _⟩, _⟩ := I3.loc
    rw [z, ho'] at gf
    cases gf
    cases hd'
  have I3' : Inv X ((f, { cls := .type "function", data := .func (lamF (X.env.qual ++ "<lambda>") params body scope (cloFrom X.env.cells scope.names []) .none doc pm c' ctv) }) :: pins) σ H3 s3 :=
    ⟨I3.ok, I3.os, I3.bare, I3.base, I3.loc, I3.cell, I3.free, I3.freeC, fun p hp => by
      rcases List.mem_append.mp hp with h | h
      · exact I3.pin p (List.mem_append_left _ h)
      · rcases List.mem_cons.mp h with rfl | h
        · exact ⟨gf, nfr, hfl, hff, fun v z => by cases z⟩
        · exact I3.pin p (List.mem_append_right _ h), I3.hok, I3.len⟩
  refine thn (ha.run pos _ s3 σ H3 _ I3' (wish H3 e3 T3 f c' hc)) fun us s4 ⟨vs, H4, I4, r4, w4⟩ => ?_
  obtain ⟨gf4, nf4, _, _, _⟩ := I4.pin (f, _) (List.mem_append_right _ List.mem_cons_self)
  have I5 : Inv X pins σ H4 s4 := ⟨I4.ok, I4.os, I4.bare, I4.base, I4.loc, I4.cell, I4.free, I4.freeC, fun p hp => by
      rcases List.mem_append.mp hp with h | h
      · exact I4.pin p (List.mem_append_left _ h)
      · exact I4.pin p (List.mem_append_right _ (List.mem_cons_of_mem _ h)), I4.hok, I4.len⟩
  refine ⟨I5.kIn, ?_⟩
  have mem : ∀ b, b ∈ (cloFrom X.env.cells scope.names []).map (·.2) → ∃ y, X.env.cells.lookup y = some b := fun b hb => by
    obtain ⟨⟨y, c0⟩, hq, e⟩ := List.mem_map.mp hb
    rcases cloFrom_mem hq with z | ⟨z1, z2⟩
    · cases z
    · obtain ⟨c1, hc1⟩ : ∃ c, X.env.cells.lookup y = some c := (L.free _ z1 rfl).elim (fun k => I5.ok.has _ (.inl k)) fun k => I5.ok.has _ (.inr k)
      refine ⟨y, ?_⟩
      have e2 : c0 = c1 := by
        rw [z2, hc1] <;> rfl
      rw [hc1, ← e2, ← e]
  obtain ⟨base', e0, sub⟩ := base_up I5.env0 (f :: (cloFrom X.env.cells scope.names []).map (·.2)) (fun b hb => by
      rcases List.mem_cons.mp hb with rfl | hb
      · exact nf4
      · obtain ⟨y, hy⟩ := mem b hb
        exact I5.freeC y b hy) (fun b hb => by
      rcases List.mem_cons.mp hb with rfl | hb
      · exact off
      · obtain ⟨y, hy⟩ := mem b hb
        exact cell_off I5 hfn hy)
  have C := caps_of0 (base' := base') I5 L nf jl xl hxs fun b hb o ho => sub b (List.mem_cons_of_mem _ hb) o ho
  have gf' := sub f List.mem_cons_self _ gf4
  have FL := lam_ok0 (P := X.prog) (w := X.w) (K := X.K) (mg := X.mg) (k := kl) (tb := tb) L C gf' fun A outer s H E hr => hbody base' f c' _ A outer s H E hr
  have F := hx base' f _ _ _ _ _ FL gf' (bindL _ _ _ _ _ _)
  have b := hb s4 (.ref f :: us) I5.kIn (by
    have := F.len _ _ _ _ w4
    simp only [List.append_nil, List.length_cons] at this ⊢
    have := r4.length
    omega)
  rw [List.append_nil] at b
  refine wpAny_call (codeAny_mono (F.run X.A X.stack s4 H4 ⟨.ref f :: us, []⟩ (.ref f :: us) (.ref f :: vs) Q C8.E0 room e0 b (.cons rfl r4) w4) fun r t5 z => ?_)
  match r, z with
  | .error e, z => exact z.elim
  | .ok (.ret u), z => exact I5.after z
  | .ok .next, z => exact z.elim
  | .ok .brk, z => exact z.elim
  | .ok .cont, z => exact z.elim
end
end FlT
/-! _law_told as a promise about the function that it gets. -/
namespace L2.FK
open PySem PySem.Spec PyProof.Rows L2.FL FlT LamX
theorem tl_word {x : Str} (h : x ∈ (["BadLanes", "OtherLanes", "BadPlan", "BadName", "Full", "BadDeed", "NothingLeft"] : List Str)) : Tells (wordF x) x .non := ⟨rfl, .inr (.inr (.inr (.inr (.inr (.inr (.inr (.inr (.inr (.inr ⟨h, rfl⟩)))))))))⟩
theorem tl_place {x : Str} {v : V} (h : x ∈ (["BadPlace", "BadGoal", "NotBijective"] : List Str)) : Tells (fldF x "place" v) x v := ⟨rfl, .inl ⟨h, rfl⟩⟩
theorem tl_most {x : Str} {v : V} (h : x ∈ (["TooWide", "TooMany"] : List Str)) : Tells (fldF x "most" v) x v := ⟨rfl, .inr (.inl ⟨h, rfl⟩)⟩
theorem tl_at {x : Str} {v : V} (h : x ∈ (["BadMove", "BadText", "BadSyntax", "BadProgram", "Stopped"] : List Str)) : Tells (fldF x "at" v) x v := ⟨rfl, .inr (.inr (.inl ⟨h, rfl⟩))⟩
theorem tl_lane {v : V} : Tells (fldF "BadLane" "lane" v) "BadLane" v := ⟨rfl, .inr (.inr (.inr (.inr (.inl ⟨rfl, rfl⟩))))⟩
theorem tl_degree {v : V} : Tells (fldF "BadDegree" "degree" v) "BadDegree" v := ⟨rfl, .inr (.inr (.inr (.inr (.inr (.inr (.inl ⟨rfl, rfl⟩))))))⟩
/-- what is told of an exception's class to whom catches it -/
structure XTop (K : PySem.W.Frag) (X LE MI NL : Addr) : Prop where
  exm : PySem.W.exmAny K (.ref X) [.ref LE, .ref MI, .ref NL] = some true
  xf : XfC K X
  no : ∀ n ∈ xNames, PySem.W.findIn K (.ref X) n = some none
theorem XTop.caught {K : PySem.W.Frag} {X LE MI NL : Addr} (x : XTop K X LE MI NL) {H : Hp} {d : Addr} {fs : List (Str × V)} {y : Str} {v : V} (h : H d = some (.xd fs)) (t : Tells fs y v) : Caught K [.ref LE, .ref MI, .ref NL] H (.ref X) (some d) y v := ⟨x.exm, X, d, fs, rfl, rfl, x.xf, x.no, h, t⟩
section
variable {P : Program} {w : World} {K : PySem.W.Frag} {mg : Str → Option Value} {base : Heap} {LE MI NL : Addr}
def spTo (K : PySem.W.Frag) (cs : List Value) (spF : Sp) (f : Addr) : Sp := fun vs H Q _ => vs = [.ref f] ∧ TTold K cs (fun E H Q => spF [] H Q E) H Q
theorem fn_toldF {g : Addr} {fdT : FuncData} (h : C8.Fun K "_law_told" "_law_told" sTold g fdT) (hF : Has K mg "_law_field" sField ["_law_e"]) (m1 : mg "LaneError" = some (.ref LE)) (m2 : mg "Missing" = some (.ref MI)) (m3 : mg "NothingLeft" = some (.ref NL)) {kl k : Nat} {f : Addr} {fdL : FuncData} {spF : Sp} {oc : Value} {od : Option Addr} {sl : Array (Option Value)}
    (FL : FnOk P w K mg base (L2N.CX P w) kl f fdL [] spF) (gf : base.get? f = some ⟨oc, od, .func fdL, sl⟩) (bd : bindArgs fdL ⟨[], []⟩ = pure []) (hk : kl ≤ k) (hk1 : 1 ≤ k) :
    FnOk P w K mg base C8.CX0 (k + 1) g fdT ["_law_ask"] (spTo K [.ref LE, .ref MI, .ref NL] spF f) := by
  obtain ⟨ff, fdf, F, mF, kF, bF⟩ := ok_field (P := P) (w := w) (base := base) hF
  refine C8.fn0 h sc_to (fun vs H Q E z => by rw [z.1]; rfl) (fun cdv A outer s H vs Q E hr z => ?_)
  obtain ⟨rfl, wish⟩ := z
  refine ⟨_, pss_one (ps_try_tup (X := (cxOf C8.CX0 P w K mg base nTold "_law_told" (C8.fnScope sTold) g cdv A outer s H E).nox) (i := 1) (c1 := .ref LE) (c2 := .ref MI) (c3 := .ref NL)
      (tb := fun W D σ H => ∃ Ech : XK, (∀ cl dd σ' H', Ech cl dd H' → W cl dd σ' H') ∧ σ[0]? = some (some (.ref f)) ∧ spF [] H (fun v H1 => [V.str "told", v].length ≤ sizeLine ∧ ∀ b, H1 b = none → D.rt (.ref b) (upd H1 b (.tup [.str "told", v]))) Ech)
      (ts := fun a cl dd D σ H => σ[1]? = some (some (.ref a)) ∧ ∃ x v, TellsAt K H cl dd x v ∧ ∀ b H2, Same H H2 → H2 b = none → D.rt (.ref b) (upd H2 b (.tup [.str x, v])))
      rfl rfl sc_to.nd rfl rfl ⟨rfl, by decide, .inl m1⟩ ⟨rfl, by decide, .inl m2⟩ ⟨rfl, by decide, .inl m3⟩ takesF (fun W pn xe tk _ => ?_) (fun a oe cl dd pn hz hd => ?_)), ?_⟩
  · refine ⟨fun pins s' σ H' D I ⟨Ech, hW, h1, h3⟩ => ?_⟩
    refine (pss_one (ps_ret (pe_tup (pa_cons pe_str (pa_cons (pe_fn0 (i := 0) (E := Ech) FL gf bd tk hW hr hk rfl (.inl rfl)) pa_nil))))).run pins s' σ H' D I ?_
    exact ⟨h1, h3⟩
  · refine ⟨fun pins s' σ H' D I ⟨sl, x, v, tell, k⟩ => ?_⟩
    obtain ⟨vs, data⟩ := hd
    have r1 : L2H.RoomH 1 ((cxOf C8.CX0 P w K mg base nTold "_law_told" (C8.fnScope sTold) g cdv A outer s H E).nox.suite a ((a, oe) :: pn)).A := ⟨(hr.mono hk1).dp, (hr.mono hk1).un⟩
    refine (pss_one (ps_ret (X := (cxOf C8.CX0 P w K mg base nTold "_law_told" (C8.fnScope sTold) g cdv A outer s H E).nox.suite a ((a, oe) :: pn)) (pe_tup (pa_cons (pe_xp (n := "word") (p := (a, oe)) List.mem_cons_self ⟨vs, data⟩ (pv 1))
      (pa_cons (pe_callP (x := "_law_field") (X := (cxOf C8.CX0 P w K mg base nTold "_law_told" (C8.fnScope sTold) g cdv A outer s H E).nox.suite a ((a, oe) :: pn)) (p := (a, oe)) (E := fun _ _ _ _ => False) F r1 ⟨rfl, vs, data, hz.2.2 vs data⟩ List.mem_cons_self rfl mF kF bF (fun _ _ _ _ _ _ _ z => z.elim) (pa_cons (pv 1) pa_nil)) pa_nil))))).run pins s' σ H' D I ?_
    have tell' : TellsAt K H' oe.cls oe.dict x v := by rw [hz.1, hz.2.1]; exact tell
    obtain ⟨C, d, fs, ec, ed, xf, no, hd, hw, _⟩ := id tell'
    exact ⟨_, sl, rfl, C, d, fs, _, ec, ed, xf, no _ (by decide), hd, hw, _, sl, rfl, x, v, tell', fun H2 s2 => ⟨(by show 2 ≤ sizeLine; decide), fun b hb => k b H2 s2 hb⟩⟩
  · refine ⟨_, fun cl dd σ' H' e => ?_, rfl, wish⟩
    obtain ⟨x, v, ⟨e1, e2⟩, e3⟩ := e
    refine ⟨true, e1, fun _ hl a na => ⟨?_, x, v, e2, e3⟩, fun z => Bool.noConfusion z⟩
    rw [List.getElem?_set_self (by rw [hl]; show 1 < 2; decide)]
end
end L2.FK
/-! The law's own text of a map. -/
namespace L2.FK
open PySem PySem.Spec PyProof.Rows L2.FL TL
section
variable {P : Program} {w : World} {K : PySem.W.Frag} {mg : Str → Option Value} {base : Heap}
abbrev nMT : List Str := ["_law_d", "_law_parts", "_law_row", "_law_goals", "_law_place"]
def spMT : Sp := fun vs H Q _ => ∃ (v : V) (ds : List Int) (T : List (List Pl)), vs = [v] ∧ DAt H v ds T ∧ Wr ds T ∧ ∀ H', Same H H' → Q (.str (mapS ds T)) H'
theorem sc_mt : FnScope nMT ["_law_d"] (C8.fnScope t__law_map_text) := C8.fnScope_by (by decide +kernel)
theorem ok_map_text (h : Has K mg "_law_map_text" t__law_map_text ["_law_d"]) (B : Bl mg) : C8.Cal P w K mg base 1 "_law_map_text" spMT [] := by
  refine cal_of h sc_mt (fun vs H Q E z => ?_) (fun f cdv A outer s H vs Q E hr z => ?_)
  · obtain ⟨v, ds, T, rfl, _⟩ := z; rfl
  obtain ⟨v, ds, T, rfl, hD, W, q⟩ := z
  have nd := sc_mt.nd
  refine ⟨_, (pss_cons (ps_set (i := 1) nd rfl (.inl rfl) (pe_lst pa_nil))
    (pss_cons (ps_for PassesOwn.never rfl (pi_range1 rfl B.range (pa_cons (pe_callB (c_len K) (by rfl) B.len bt_len (pa_cons (pe_ix (x_tup K) (pv 0) pe_int (fun _ _ => rfl)) pa_nil)) pa_nil)) (pg_name (i := 2) nd rfl (.inl rfl))
    (pss_cons (ps_setLc (i := 3) (own := [("_law_place", 4)]) (g := (gName 4)) (tt := tYes) rfl nd rfl rfl (sw_true rfl rfl rfl (by decide +kernel)) (n_list K (pe_ix (x_list K) (pe_ix (x_tup K) (pv 0) pe_int (fun _ _ => rfl)) (pv 2) (fun _ _ => rfl))) (blkOk_by (own := [("_law_place", 4)]) (N := nMT) (sc := C8.fnScope t__law_map_text) (by decide +kernel)) (fun _ _ _ _ _ => (pg_name (i := 4) nd rfl (.inl rfl))) (fun _ _ _ _ _ => pts_nil) (fun _ _ _ _ _ => (pe_op op_add_str (pe_op op_add_str (pe_callTy call_str_int (by rfl) B.str bt_str (pa_cons (pe_ix (x_tup K) (pv 4) pe_int (fun _ _ => rfl)) pa_nil)) pe_str) (pe_callTy call_str_int (by rfl) B.str bt_str (pa_cons (pe_ix (x_tup K) (pv 4) pe_int (fun _ _ => rfl)) pa_nil)))))
    (pss_one (ps_expr (pe_bm PySem.F.plainAttrs_list PySem.F.slot_list_append PySem.F.type_list_append mt_append (pv 1) (pa_cons (pe_join pe_str (pe_op op_cat (pe_lst (pa_cons (pe_callTy call_str_int (by rfl) B.str bt_str (pa_cons (pe_ix (x_list K) (pe_ix (x_tup K) (pv 0) pe_int (fun _ _ => rfl)) (pv 2) (fun _ _ => rfl)) pa_nil)) pa_nil)) (pv 3))) pa_nil))))))
    (pss_one (ps_ret (pe_join pe_str (pv 1)))))), ?_⟩
  obtain ⟨dt, v1, v2, rfl, hdt, ⟨a1, rfl, h1⟩, ⟨a2, ws, rfl, h2, hp⟩⟩ := hD
  have lW := W.len
  have h6 := W.hi
  have hwl := paired_len hp
  have le6 : 6 < sizeLine := by decide
  have zl : (List.zipWith partS ds T).length = ds.length := by rw [List.length_zipWith, lW, Nat.min_self]
  have d0 : ∀ {H' : Hp}, H' dt = some (.tup [.ref a1, .ref a2]) → SqT K H' dt [.ref a1, .ref a2] := fun e => .inl (.inl e)
  have p0 : ∀ {H' : Hp} {t : Addr} {x y : V}, H' t = some (.tup [x, y]) → SqT K H' t [x, y] := fun e => .inl (.inl e)
  refine ⟨(by show 0 ≤ sizeLine; decide), fun R hR => ?_⟩
  have sR : Same H (del R (upd H R (.lst []))) := by rw [del_upd]; exact same_del (Same.refl _) hR
  have gR : upd H R (.lst []) R = some (.lst []) := upd_same
  generalize upd H R (.lst []) = H0 at sR gR
  have s0 : Same H H0 := sR.trans del_same
  refine ⟨_, rfl, dt, _, _, _, rfl, rfl, d0 (s0 _ _ hdt), rfl, a1, _, rfl, .inl (SqL.of (s0 _ _ h1)), _, rfl, by rw [List.length_map]; omega, by rw [List.length_map]; omega, ?_⟩
  rw [List.length_map, Int.toNat_natCast]
  refine for_it (walk_range (lo := 0) (n := ds.length)) (fun i σ H' => Same H (del R H') ∧ H' R = some (.lst (((List.zipWith partS ds T).take i).map V.str)) ∧ ∃ x2 x3 x4, σ = [some (.ref dt), some (.ref R), x2, x3, x4]) ⟨sR, gR, _, _, _, rfl⟩ ?_ ?_ ?_
  · rintro i σ H' _ _; trivial
  · rintro i x σ H1 H2 hi ⟨s1, hu, x2, x3, x4, rfl⟩ ⟨rfl, rfl⟩
    have hiT : i < T.length := lW ▸ hi
    have hiw : i < ws.length := by omega
    have ed := List.getElem?_eq_getElem hi
    obtain ⟨row, hrow, b, vs, eb, hb, hvs⟩ := paired_get hp i (List.getElem?_eq_getElem hiw)
    have hvl := paired_len hvs
    have e0 : (0 : Int) + (i : Int) = (i : Int) := by omega
    have S1 : Same H H2 := s1.trans del_same
    have hm : row ∈ T := List.mem_of_getElem? hrow
    obtain ⟨rl, hn⟩ := W.num31 hm
    have dn : ds[i].natAbs < 10 ^ 31 := Nat.lt_trans (W.dr _ (List.getElem_mem hi)) (by decide)
    have aw : atI ws (0 + (i : Int)) = some (.ref b) := by rw [e0]; exact atI_nat (by rw [List.getElem?_eq_getElem hiw, eb])
    have ad : atI (ds.map V.int) (0 + (i : Int)) = some (.int ds[i]) := by rw [e0]; exact atI_nat (by rw [List.getElem?_map, ed]; rfl)
    refine ⟨_, rfl, dt, _, _, _, rfl, rfl, d0 (S1 _ _ hdt), rfl, _, rfl, a2, _, _, _, rfl, rfl, SqL.of (S1 _ _ h2), aw, b, rfl, ⟨_, SqL.of (S1 _ _ hb)⟩, fun D hD => ?_⟩
    have nbD := ne_of_none (S1 _ _ hb) hD
    refine lc_it (walk_list (K := K) (a := b) (xs := vs)) (fun j H' => H' = upd H2 D (.lst ((row.take j).map fun p => V.str (plS p)))) (by rw [List.take_zero]; rfl) ?_ ?_ ?_
    · rintro j H' _ rfl; exact SqL.of (by rw [upd_ne nbD]; exact S1 _ _ hb)
    · rintro j x H3 H4 hj rfl ⟨rfl, hx⟩
      obtain ⟨p, hpp, pt, rfl, hpt⟩ := paired_get hvs j hx
      obtain ⟨n1, n2⟩ := hn p (List.mem_of_getElem? hpp)
      have gp : (upd H2 D (.lst ((row.take j).map fun p => V.str (plS p)))) pt = some (.tup [.int p.1, .int p.2]) := by rw [upd_ne (ne_of_none (S1 _ _ hpt) hD)]; exact S1 _ _ hpt
      have l1 := numS_len (k := 31) (by decide) n1
      have l2 := numS_len (k := 31) (by decide) n2
      have c1 : (Str.ofString ".").length = 1 := by rw [len_tl, tl_dot]; rfl
      refine ⟨rfl, _, rfl, pt, _, _, _, rfl, rfl, p0 gp, rfl, _, rfl, lg31 n1, _, _, rfl, rfl, Nat.le_trans (Nat.add_le_add l1 (Nat.le_of_eq c1)) (by decide), _, rfl, pt, _, _, _, rfl, rfl, p0 gp, rfl, _, rfl, lg31 n2, _, _, rfl, rfl, ?_, _, upd_same, snoc_le (by rw [List.length_map, List.length_take]; omega), ?_⟩
      · rw [len_app]; exact Nat.le_trans (Nat.add_le_add (Nat.add_le_add l1 (Nat.le_of_eq c1)) l2) (by decide)
      · rw [upd_upd, take_snoc hpp, List.map_append]; rfl
    · rintro H3 rfl
      rw [hvl, List.take_length]
      have nRD : R ≠ D := ne_of_none hu hD
      have nd1 : dt ≠ D := ne_of_none (S1 _ _ hdt) hD
      have na1 : a1 ≠ D := ne_of_none (S1 _ _ h1) hD
      refine ⟨_, rfl, .inl ⟨rfl, _, SqL.of (by rw [upd_ne nRD]; exact hu)⟩, ⟨_, rfl⟩, _, rfl, dt, _, _, _, rfl, rfl, d0 (by rw [upd_ne nd1]; exact S1 _ _ hdt), rfl, _, rfl, a1, _, _, _, rfl, rfl, SqL.of (by rw [upd_ne na1]; exact S1 _ _ h1), ad, _, rfl, lg31 dn, (by show 1 ≤ sizeLine; decide), fun l hl => ?_⟩
      have nDl : D ≠ l := ne_of_none upd_same hl
      have nRl : R ≠ l := ne_of_none (show upd H2 D (.lst (row.map fun p => V.str (plS p))) R = _ from by rw [upd_ne nRD]; exact hu) hl
      refine ⟨_, rfl, l, D, [V.str (numS ds[i])], _, rfl, rfl, upd_same, by rw [upd_ne nDl]; exact upd_same, ?_, fun t ht => ?_⟩
      · rw [List.length_map]
        have : (2001 : Nat) ≤ sizeLine := by decide
        show 1 + row.length ≤ sizeLine
        omega
      have e : [V.str (numS ds[i])] ++ row.map (fun p => V.str (plS p)) = (numS ds[i] :: row.map plS).map V.str := by
        rw [List.map_cons, List.map_map]; rfl
      have nRt : R ≠ t := ne_of_none (show upd (upd H2 D (.lst (row.map fun p => V.str (plS p)))) l (.lst [V.str (numS ds[i])]) R = _ from by rw [upd_ne nRl, upd_ne nRD]; exact hu) ht
      refine ⟨_, t, numS ds[i] :: row.map plS, rfl, rfl, .inl (SqL.of (by rw [upd_same, e])), Nat.le_trans (part_sum dn hn rl) (by decide), R, _, _, rfl, rfl, by rw [upd_ne nRt, upd_ne nRl, upd_ne nRD]; exact hu, by rw [List.length_map, List.length_take, zl]; omega, ?_, ?_, _, _, _, rfl⟩
      · rw [del_upd]
        refine s1.trans (same_dels ?_)
        exact ((same_new hD _).trans (same_new hl _)).trans (same_new ht _)
      · rw [upd_same, take_snoc (l := List.zipWith partS ds T) (x := partS ds[i] row) (by rw [List.getElem?_zipWith, ed, hrow]), List.map_append, join_eq]; rfl
  · rintro σ H2 ⟨s', hu, x2, x3, x4, rfl⟩
    rw [← zl, List.take_length] at hu
    refine ⟨⟨_, rfl⟩, _, rfl, _, R, _, rfl, rfl, .inl (SqL.of hu), Nat.le_trans W.sum (by decide), ?_⟩
    rw [join_eq]
    exact q _ (s'.trans del_same)
end
end L2.FK
/-! law_k41. -/
namespace L2.FK
open PySem PySem.Spec PyProof.Rows L2.FL FlT LamX TL
/-- what was told of a text -/
def Told (C : Addr) (H : Hp) (tt : Addr) (ps : List Str) : Prop := (∃ n : Nat, FstNo ps n ∧ H tt = some (.tup [.str "BadText", .int n])) ∨
  ∃ xs, AllRd ps xs ∧ (((Okm (dsX xs) (rwX xs) ∧ trimAll (dsX xs) (rwX xs) = rwX xs) ∧ ∃ r, H tt = some (.tup [.str "told", r]) ∧ LMap C H r (dsX xs) (rwX xs)) ∨
    (¬ (Okm (dsX xs) (rwX xs) ∧ trimAll (dsX xs) (rwX xs) = rwX xs) ∧ H tt = some (.tup [.str "BadText", .int (xs.length : Nat)])))
theorem Told.up {C b sa : Addr} {TT : List (Addr × Str)} {H H' : Hp} {tt : Addr} {ps : List Str} (L : Lv b sa TT H) (u : Up b sa TT H H') (h : Told C H tt ps) : Told C H' tt ps := by
  rcases h with ⟨n, h1, h2⟩ | ⟨xs, h1, ⟨h2, r, h3, h4⟩ | ⟨h6, h7⟩⟩
  · exact .inl ⟨n, h1, u.tup L h2⟩
  · exact .inr ⟨xs, h1, .inl ⟨h2, r, u.tup L h3, h4.up L u⟩⟩
  · exact .inr ⟨xs, h1, .inr ⟨h6, u.tup L h7⟩⟩
theorem told_parse {K : PySem.W.Frag} {C BT LE MI NL b sa : Addr} {TT : List (Addr × Str)} {H : Hp} {Q : VK} {t : Str} {tl : XK → Hp → VK → Prop} (TBT : XTop K BT LE MI NL) (L : Lv b sa TT H) (ha : Asc t) (hz : t.length ≤ 300000)
    (h : ∀ (E : XK) (Q' : VK), spPMx C BT [.str t] H Q' E → tl E H Q') (q : ∀ tt H', Up b sa TT H H' → Told C H' tt (Txt.split t (Str.ofString " | ")) → Q (.ref tt) H') : TTold K [.ref LE, .ref MI, .ref NL] tl H Q := by
  refine h _ _ ⟨t, rfl, ha, hz, fun n hn => ?_, fun xs hx => ⟨fun g r H' s' hm => ?_, fun ng => ?_⟩⟩
  · exact fun d H' s e => ⟨"BadText", .int (n : Nat), TBT.caught e (tl_at (by decide)), fun t2 H2 s2 ht => q t2 _ (L.same (s.trans (s2.trans (same_new ht _)))) (.inl ⟨n, hn, upd_same⟩)⟩
  · exact ⟨by show 2 ≤ sizeLine; decide, fun t2 ht => q t2 _ (L.same (s'.trans (same_new ht _))) (.inr ⟨xs, hx, .inl ⟨g, r, upd_same, hm.mono (same_new ht _)⟩⟩)⟩
  · exact fun d H' s e => ⟨"BadText", .int (xs.length : Nat), TBT.caught e (tl_at (by decide)), fun t2 H2 s2 ht => q t2 _ (L.same (s.trans (s2.trans (same_new ht _)))) (.inr ⟨xs, hx, .inr ⟨ng, upd_same⟩⟩)⟩
theorem FstNo.not_all {ps : List Str} {n : Nat} {xs : List (Int × List Pl)} (h : FstNo ps n) (h' : AllRd ps xs) : False :=
  h.2.2 _ _ _ (List.getElem?_eq_getElem h.1) (h'.2 n _ (xs[n]'(by rw [h'.1]; exact h.1)) (List.getElem?_eq_getElem h.1) (List.getElem?_eq_getElem _))
theorem RdP.uniq {p : Str} {d d' : Int} {row row' : List Pl} (h : RdP p d row) (h' : RdP p d' row') : d = d' ∧ row = row' := by
  have e := (rdp_iff h.2.1 h.2.2).mp h
  rw [(rdp_iff h'.2.1 h'.2.2).mp h'] at e
  have nn : ∀ {row : List Pl}, (∀ x ∈ row, ∃ i j : Nat, x = ((i : Int), (j : Int)) ∧ i ≤ 10 ^ 30 - 1 ∧ j ≤ 10 ^ 30 - 1) → ∀ p ∈ row, 0 ≤ p.1 ∧ 0 ≤ p.2 := fun {row} h p hp => by
    obtain ⟨i, j, rfl, _⟩ := h p hp
    exact ⟨Int.natCast_nonneg _, Int.natCast_nonneg _⟩
  exact ⟨numS_inj (List.cons.inj e).1.symm, rows_inj (nn h.2.2) (nn h'.2.2) (List.cons.inj e).2.symm⟩
theorem AllRd.uniq {ps : List Str} {xs ys : List (Int × List Pl)} (h : AllRd ps xs) (h' : AllRd ps ys) : xs = ys := by
  refine List.ext_getElem (by rw [h.1, h'.1]) fun i h1 h2 => ?_
  have hp : i < ps.length := by rw [← h.1]; exact h1
  obtain ⟨e1, e2⟩ := (h.2 i _ _ (List.getElem?_eq_getElem hp) (List.getElem?_eq_getElem h1)).uniq (h'.2 i _ _ (List.getElem?_eq_getElem hp) (List.getElem?_eq_getElem h2))
  exact Prod.ext e1 e2
theorem ppr_cases {H : Hp} {ps : List Str} {u : V} {n : Nat} (h : PpR H ps u n) : (u = .non ∧ FstNo ps n) ∨ ∃ xs, AllRd ps xs ∧ n = xs.length ∧ DAt H u (dsX xs) (rwX xs) := by
  rcases h with ⟨h1, h2, h3, h4⟩ | ⟨hn, ds, rows, l1, l2, hd, h⟩
  · exact .inl ⟨h1, h2, h3, h4⟩
  · refine .inr ⟨ds.zip rows, ⟨by rw [List.length_zip, l1, l2, Nat.min_self], fun i p x hp hx => ?_⟩, by rw [List.length_zip, l1, l2, Nat.min_self]; exact hn, ?_⟩
    · obtain ⟨z1, z2⟩ := List.getElem?_zip_eq_some.mp hx
      exact h i p _ _ hp z1 z2
    · have e1 : dsX (ds.zip rows) = ds := List.map_fst_zip (by omega)
      have e2 : rwX (ds.zip rows) = rows := List.map_snd_zip (by omega)
      rw [e1, e2]; exact hd
theorem AllRd.natP {ps : List Str} {xs : List (Int × List Pl)} (h : AllRd ps xs) : ∀ p ∈ (rwX xs).flatten, ∃ i j : Nat, p = ((i : Int), (j : Int)) := fun p hp => by
  obtain ⟨row, hr, hp⟩ := List.mem_flatten.mp hp
  obtain ⟨h1, h2⟩ := h.nat row hr p hp
  obtain ⟨i, hi⟩ := Int.eq_ofNat_of_zero_le h1
  obtain ⟨j, hj⟩ := Int.eq_ofNat_of_zero_le h2
  exact ⟨i, j, Prod.ext hi hj⟩
def datD (ds : List Int) (T : List (List Pl)) : PyData := .tuple [L2.FQ.intsD ds, L2.FQ.rowsD T]
theorem dp_dat {K : PySem.W.Frag} {H : Hp} {v : V} {ds : List Int} {T : List (List Pl)} (h : DAt H v ds T) : Dp K H v (datD ds T) := by
  obtain ⟨td, vd1, vd2, rfl, htd, ⟨a1, rfl, ha1⟩, h2⟩ := h
  exact .tup (.inl (.inl htd)) (.cons (L2.FQ.dp_ints ha1) (.cons (L2.FQ.dp_rows h2) .nil))
theorem shp_dat (ds : List Int) (T : List (List Pl)) : SeqAt.shaped (datD ds T) = true := by
  refine L2.FQ.shaped_of (n := 8) ?_ ?_ (by decide)
  · simp only [datD, PyData.canLay0, PyData.canLayAll0, L2.FQ.lay_ints, L2.FQ.lay_rows, Bool.and_self]
  · have a := L2.FQ.depth_ints ds
    have b := L2.FQ.depth_rows T
    simp only [datD, PyData.depth, PyData.depthAll]
    omega
theorem eqv_dat (ds : List Int) (T U : List (List Pl)) : PyData.eqv (datD ds T) (datD ds U) = decide (T = U) := by
  simp only [datD, PyData.eqv, PyData.eqvAll, L2.FQ.eqv_ints, L2.FQ.eqv_rows, Bool.and_true]
  simp
/-! ### the long text -/
def endL (n : Nat) : List Int := ([((n : Int) - 1)] ++ (List.range (n - 2)).map fun (i : Nat) => (1 : Int) + (i : Int)) ++ [0]
def endR (n : Nat) : List Pl := (endL n).map fun e => ((0 : Int), e)
theorem endL_len {n : Nat} (h : 3 ≤ n) : (endL n).length = n := by
  unfold endL
  rw [List.length_append, List.length_append, List.length_map, List.length_range]
  simp only [List.length_cons, List.length_nil]
  omega
theorem mem_endL {n : Nat} (h : 3 ≤ n) {e : Int} : e ∈ endL n ↔ 0 ≤ e ∧ e < n := by
  unfold endL
  rw [List.mem_append, List.mem_append, List.mem_singleton, List.mem_singleton, List.mem_map]
  constructor
  · rintro ((rfl | ⟨i, hi, rfl⟩) | rfl)
    · omega
    · have := List.mem_range.mp hi; omega
    · omega
  · intro ⟨h0, h1⟩
    by_cases c : e = 0
    · exact .inr c
    · by_cases c2 : e = (n : Int) - 1
      · exact .inl (.inl c2)
      · exact .inl (.inr ⟨(e - 1).toNat, List.mem_range.mpr (by omega), by omega⟩)
theorem endL_nd {n : Nat} (h : 3 ≤ n) : (endL n).Nodup := by
  unfold endL
  have nm : ((List.range (n - 2)).map fun (i : Nat) => (1 : Int) + (i : Int)).Nodup := by
    refine List.Pairwise.map _ (fun a b hab e => hab ?_) (List.nodup_range (n := n - 2))
    have e : (1 : Int) + (a : Int) = 1 + (b : Int) := e
    omega
  refine List.nodup_append.mpr ⟨List.nodup_append.mpr ⟨by simp, nm, fun a ha b hb e => ?_⟩, by simp, fun a ha b hb e => ?_⟩
  · obtain ⟨i, hi, rfl⟩ := List.mem_map.mp hb
    have := List.mem_range.mp hi
    have := List.mem_singleton.mp ha
    omega
  · have := List.mem_singleton.mp hb
    rcases List.mem_append.mp ha with ha | ha
    · have := List.mem_singleton.mp ha; omega
    · obtain ⟨i, hi, rfl⟩ := List.mem_map.mp ha; omega
theorem endR_len {n : Nat} (h : 3 ≤ n) : (endR n).length = n := by unfold endR; rw [List.length_map, endL_len h]
theorem endR_nat {n : Nat} (h : 3 ≤ n) : ∀ p ∈ endR n, ∃ i j : Nat, p = ((i : Int), (j : Int)) ∧ i = 0 ∧ j < n := fun p hp => by
  obtain ⟨e, he, rfl⟩ := List.mem_map.mp hp
  obtain ⟨h0, h1⟩ := (mem_endL h).mp he
  exact ⟨0, e.toNat, by rw [Int.toNat_of_nonneg h0]; rfl, rfl, by omega⟩
theorem okm_end {n : Nat} (h : 3 ≤ n) (h2 : n ≤ 2000) : Okm [0] [endR n] := by
  have fl : [endR n].flatten = endR n := by simp
  refine model_okm rfl (by decide) (by decide) rfl (fun i row d h1 h2 => ?_) (by rw [fl, endR_len h]; exact h2) ?_ fun p hp => ?_
  · match i, h1, h2 with
    | 0, h1, h2 => cases h1; cases h2; omega
    | i + 1, h1, _ => simp at h1
  · rw [fl]
    unfold endR
    exact List.Pairwise.map _ (fun a b hab e => hab (Prod.mk.inj e).2) (endL_nd h)
  · rw [fl] at hp
    obtain ⟨i, j, rfl, rfl, hj⟩ := endR_nat h p hp
    exact ⟨0, endR n, 0, rfl, rfl, rfl, Int.natCast_nonneg _, by show (j : Int) < ((endR n).length : Int) + 0; rw [endR_len h]; omega⟩
theorem trim_end {n : Nat} (h : 3 ≤ n) (h2 : n ≤ 2000) : trimAll [0] [endR n] = [endR n] := by
  refine trim_id' (okm_end h h2) fun i row d k h1 h2 hl e => ?_
  match i, h1, h2 with
  | 0, h1, h2 =>
    cases h1; cases h2
    rw [endR_len h] at hl
    unfold endR endL at e
    rw [List.map_append, List.getElem?_append_right (by rw [List.length_map, List.length_append, List.length_map, List.length_range]; simp only [List.length_cons, List.length_nil]; omega)] at e
    rw [List.length_map, List.length_append, List.length_map, List.length_range] at e
    simp only [List.length_cons, List.length_nil] at e
    rw [show k - (0 + 1 + (n - 2)) = 0 by omega] at e
    have e := Option.some.inj e
    have e := (Prod.mk.inj e).2
    omega
  | i + 1, h1, _ => simp at h1
theorem not_end {n : Nat} (h : 3 ≤ n) (h2 : 2000 < n) : ¬ Okm [0] [endR n] := fun o => by
  have w := o.wid
  rw [show [endR n].flatten = endR n by simp, endR_len h] at w
  omega
theorem end_rd {n : Nat} (h : 3 ≤ n) (h2 : n ≤ 2001) : AllRd (Txt.split (partS 0 (endR n)) (Str.ofString " | ")) [(0, endR n)] := by
  have e : mapS [0] [endR n] = partS 0 (endR n) := ext_tl (by unfold mapS; rw [tl_join]; rfl)
  have z := split_map (ds := [0]) (T := [endR n]) (by simp)
  rw [e] at z
  rw [z]
  refine ⟨rfl, fun i p x hp hx => ?_⟩
  match i, hp, hx with
  | 0, hp, hx =>
    cases hp; cases hx
    refine ⟨rfl, (by show (0 : Int).natAbs ≤ 10 ^ 30 - 1; decide), fun q hq => ?_⟩
    obtain ⟨i, j, rfl, rfl, hj⟩ := endR_nat h q hq
    exact ⟨0, j, rfl, by decide, Nat.le_trans (show j ≤ 2001 by omega) (by decide)⟩
  | i + 1, hp, _ => simp at hp
theorem pl0 (e : Int) : plS (0, e) = Str.ofString "0." ++ numS e := by
  have z : numS 0 ++ Str.ofString "." = Str.ofString "0." := by decide +kernel
  unfold plS
  rw [z]
theorem end_text {n : Nat} : partS 0 (endR n) = Str.join (Str.ofString " ") (Str.ofString "0" :: (endL n).map fun e => Str.ofString "0." ++ numS e) := by
  unfold partS endR
  rw [List.map_map, show numS 0 = Str.ofString "0" by decide +kernel]
  rw [show (plS ∘ fun e => ((0 : Int), e)) = fun e => Str.ofString "0." ++ numS e from funext pl0]
theorem end_sum : ∀ (l : List Int), (∀ e ∈ l, 0 ≤ e ∧ e < 2001) → ((l.map fun e => Str.ofString "0." ++ numS e).map fun x => x.length).sum ≤ 8 * l.length
  | [], _ => Nat.le_refl _
  | e :: l, h => by
    have z := end_sum l fun x hx => h x (List.mem_cons_of_mem _ hx)
    obtain ⟨h0, h1⟩ := h e List.mem_cons_self
    have ln := numS_len (i := e) (k := 5) (by decide) (by omega)
    have l2 : (Str.ofString "0.").length = 2 := by decide +kernel
    rw [List.map_cons, List.map_cons, List.sum_cons, List.length_cons, len_app, l2]
    omega
theorem shp2 {x : Str} (i : Int) (h : PyData.strOk x = true) : SeqAt.shaped (.tuple [.str x, .int i]) = true := L2.FQ.shaped_of (n := 4) (by simp [PyData.canLay0, PyData.canLayAll0, h]) (by simp [PyData.depth, PyData.depthAll]) (by decide)
section
variable {P : Program} {w : World} {K : PySem.W.Frag} {mg : Str → Option Value} {base : Heap} {C LE MI NL BT : Addr} {TT : List (Addr × Str)}
abbrev nLaw : List Str := ["_law_script", "_law_bag_here", "_law_turn", "_law_d", "_law_text", "_law_bend", "_law_told_here", "_law_read", "_law_due", "_law_size", "_law_ends", "_law_at"]
abbrev qLam : Str := "law.<locals>.<lambda>"
def spLaw (K : PySem.W.Frag) (TT : List (Addr × Str)) : Sp := fun vs H Q _ => ∃ (a : Addr) (ns : List Int), vs = [.ref a] ∧ SqL K H a (ns.map V.int) ∧ Tabs TT H ∧ ∀ H', Q (.bl true) H'
theorem sc_law : FnScope nLaw ["_law_script"] (C8.fnScope sLaw) := C8.fnScope_by (by decide +kernel)
/-- the law's context -/
abbrev XL (P : Program) (w : World) (K : PySem.W.Frag) (mg : Str → Option Value) (base : Heap) (f c : Addr) (A : Around) (outer : List Env) (s : Shared) (H : Hp) (E : XK) : Cx := (cxOf C8.CX0 P w K mg base nLaw "law" (C8.fnScope sLaw) f (.ref c) A outer s H E).nox
theorem ok_law {f c Tb fPM fL : Addr} {fdPM fdL : FuncData} {oc dV kV doc pm ct : Value} {od an : Option Addr} {osl : Array (Option Value)}
    (lk : K.lookup f = some ⟨oc, od, .func (PySem.W.fnOf "law" "law" (C8.fnArgs sLaw) (C8.fnBody sLaw) (C8.fnScope sLaw) dV kV doc pm an (.ref c) ct), osl⟩) (code : PySem.W.codeIn K (.ref c) "law" = true) (TB : TabB base mg c Tb) (hmT : (Tb, qLam) ∈ TT) (hu : ∀ p ∈ TT, p.1 = Tb → p.2 = qLam)
    (B : Bl mg) (cBag : C8.Cal P w K mg base 1 "_law_bag" (gBag K TT) []) (cPull : C8.Cal P w K mg base 1 "_law_pull" (gPull TT) []) (cAny : C8.Cal P w K mg base 3 "_law_any" (gAny TT) []) (cBx : C8.Cal P w K mg base 3 "_law_bent" (gBx TT) []) (cMT : C8.Cal P w K mg base 1 "_law_map_text" spMT [])
    (cPp : C8.Cal P w K mg base 3 "_law_parts_in" spPp []) (cIs : C8.Cal P w K mg base 1 "_law_is_model" spIsM []) (cLs : C8.Cal P w K mg base 1 "_law_least" spLeast [])
    (cLk : C8.Cal P w K mg base 5 "_law_like" (spLike K 5) []) (cIM : C8.Cal P w K mg base 6 "_law_is_map" (spIsMap C) []) (hTo : Has K mg "_law_told" sTold ["_law_ask"]) (hF : Has K mg "_law_field" sField ["_law_e"]) (g1 : mg "LaneError" = some (.ref LE)) (g2 : mg "Missing" = some (.ref MI)) (g3 : mg "NothingLeft" = some (.ref NL))
    (FPM : FnOk P w K mg base (L2.CX P w) 8 fPM fdPM ["text"] (spPMx C BT)) (mPM : mg "parse_map" = some (.ref fPM)) (kPM : PySem.W.keepIn K (.ref fPM) = true) (bPM : Binds K fdPM ["text"] [])
    (FLn : FnOk P w K mg base C8.CX0 1 fL fdL ["self"] (spLen C)) (hsL : PySem.W.findIn K (.ref C) "__len__" = some (some (.ref fL))) (hfL : PySem.W.isFn K (.ref fL) = true) (bL : Binds K fdL ["self"] [])
    (TBT : XTop K BT LE MI NL) :
    FnOk P w K mg base C8.CX0 12 f (PySem.W.fnOf "law" "law" (C8.fnArgs sLaw) (C8.fnBody sLaw) (C8.fnScope sLaw) dV kV doc pm an (.ref c) ct) ["_law_script"] (spLaw K TT) := by
  refine fn_of lk code sc_law (fun vs H Q E z => ?_) (fun A outer s H vs Q E hr z => ?_)
  · obtain ⟨a, ns, rfl, _⟩ := z; rfl
  obtain ⟨a, ns, rfl, hs, htab, q⟩ := z
  have nd := sc_law.nd
  suffices h : ∃ t, PSs (XL P w K mg base f c A outer s H E) (C8.fnBody sLaw) t ∧ t { nx := fun _ H' => Q .non H', rt := Q } (start nLaw [.ref a]) H from
    let ⟨t, h1, h2⟩ := h; ⟨t, h1.nox, h2⟩
  obtain ⟨gT, fdT, FT, bT⟩ := hTo
  obtain ⟨ocT, odT, dVT, kVT, docT, pmT, anT, cdvT, ctT, oslT, rfl, lkT, codeT⟩ := FT.fn.ex
  have hg : Gl (XL P w K mg base f c A outer s H E) "_law_told" := rfl
  have gv := told_givesC (X := XL P w K mg base f c A outer s H E) (g := gT) (cdg := cdvT) (q := qLam) (j := 9) hF g1 g2 g3 (by decide)
  have hr7 := hr.mono (by decide : 10 ≤ 11)
  have hu0 := hu
  have hu := hu_of hr
  have huT := hu0
  refine ⟨_, (pss_cons (ps_set (i := 1) nd rfl (.inl rfl) (C8.pe_c cBag hr (by decide) rfl (pa_cons (pv 0) pa_nil)))
    (C8.pss_cut (ps_for PassesOwn.never rfl (pi_range1 rfl B.range (pa_cons pe_int pa_nil)) (pg_name (i := 2) nd rfl (.inl rfl))
    (pss_cons (ps_set (i := 3) nd rfl (.inl rfl) (C8.pe_c cAny hr (by decide) rfl (pa_cons (pv 1) (pa_cons (pe_op op_add pe_int (C8.pe_c cPull hr (by decide) rfl (pa_cons (pv 1) (pa_cons pe_int pa_nil)))) (pa_cons pe_int (pa_cons pe_int pa_nil))))))
    (pss_cons (ps_set (i := 4) nd rfl (.inr rfl) (C8.pe_c cMT hr (by decide) rfl (pa_cons (pv 3) pa_nil)))
    (pss_cons (ps_for PassesOwn.never rfl (pi_range1 rfl B.range (pa_cons (C8.pe_c cPull hr (by decide) rfl (pa_cons (pv 1) (pa_cons pe_int pa_nil))) pa_nil)) (pg_name (i := 5) nd rfl (.inl rfl))
    (pss_one (ps_set (i := 4) nd rfl (.inr rfl) (C8.pe_c cBx hr (by decide) rfl (pa_cons (pv 1) (pa_cons (pv 4) pa_nil))))))
    (C8.pss_cut (ps_par (i := 6) (j := 7) (by rfl) nd rfl rfl (by decide) rfl rfl (pa_cons (FlC.pe_lam (X := XL P w K mg base f c A outer s H E) (x := "_law_told") (a := "_law_ask") (k := 8) (as := []) (T := TT) hg FT.mgf FT.kp lkT codeT bT sc_to rfl (.inl rfl) gv TB rfl hmT huT hr7 (lamD_by (by show lamDB nLaw (C8.fnScope sLaw) _ = true; decide +kernel)) (.none (fun _ => rfl) (fun _ _ _ _ _ _ => rfl)) (fun y hy => nomatch hy) (fun A outer s H E f c' room => pe_call (x := "parse_map") FPM room rfl mPM kPM bPM .nil (L2.passes_call (E := E) FlC.lamN_takes fun _ _ _ _ z => z) (pa_cons (pv 4) pa_nil))) (pa_cons (C8.pe_c cPp hr (by decide) rfl (pa_cons (pv 4) pa_nil)) pa_nil)) rfl)
    (C8.pss_cut (ps_set (i := 8) nd rfl (.inl rfl) (pe_tup (pa_cons pe_str (pa_cons (pe_ix (x_tup K) (pv 7) pe_int (fun _ _ => rfl)) pa_nil))))
    (pss_one (ps_if (PW.pt (pw_and (pt_cmpR op_notN (pe_ix (x_tup K) (pv 7) pe_int (fun _ _ => rfl)) pe_non (nomark _)) (pw_and (pt_val (C8.pe_c cIs hr (by decide) rfl (pa_cons (pe_ix (x_tup K) (pv 7) pe_int (fun _ _ => rfl)) pa_nil))) (pw_and1 (pt_cmpR (op_eqD hr.units) (C8.pe_c cLs hr (by decide) rfl (pa_cons (pe_ix (x_tup K) (pv 7) pe_int (fun _ _ => rfl)) pa_nil)) (pe_ix (x_tup K) (pv 7) pe_int (fun _ _ => rfl)) (nomark _)))))) (pss_one (ps_if (PW.pt (pw_or (pt_cmpR op_ne (pe_ix (x_tup K) (pv 6) pe_int (fun _ _ => rfl)) pe_str (nomark _)) (pw_or1 (pt_not (pt_val (C8.pe_c cIM hr (by decide) rfl (pa_cons (pe_ix (x_tup K) (pv 6) pe_int (fun _ _ => rfl)) (pa_cons (pe_ix (x_tup K) (pv 7) pe_int (fun _ _ => rfl)) pa_nil)))))))) (pss_one (ps_ret pe_bl)) pss_nil)) (pss_one (ps_if (pt_not (pt_val (C8.pe_c cLk hr (by decide) rfl (pa_cons (pv 6) (pa_cons (pv 8) pa_nil))))) (pss_one (ps_ret pe_bl)) pss_nil))))))))))
    (pss_cons (ps_set (i := 9) nd rfl (.inl rfl) (pe_op op_add pe_int (C8.pe_c cPull hr (by decide) rfl (pa_cons (pv 1) (pa_cons pe_int pa_nil)))))
    (pss_cons (ps_set (i := 10) nd rfl (.inl rfl) (pe_op op_cat (pe_op op_cat (pe_lst (pa_cons (pe_op op_sub (pv 9) pe_int) pa_nil)) (pe_listRg rfl rfl B.list (prg_2 rfl B.range pe_int (pe_op op_sub (pv 9) pe_int)))) (pe_lst (pa_cons pe_int pa_nil))))
    (C8.pss_cut (ps_set (i := 4) nd rfl (.inr rfl) (pe_join pe_str (pe_op op_cat (pe_lst (pa_cons pe_str pa_nil)) (pe_lc (own := [("_law_at", 11)]) (g := (gName 11)) (tt := tYes) rfl nd (n_list K (pv 10)) (blkOk_by (own := [("_law_at", 11)]) (N := nLaw) (sc := C8.fnScope sLaw) (by decide +kernel)) (fun _ _ _ _ _ => (pg_name (i := 11) nd rfl (.inl rfl))) (fun _ _ _ _ _ => pts_nil) (fun _ _ _ _ _ => (pe_op op_add_str pe_str (pe_callTy call_str_int (by rfl) B.str bt_str (pa_cons (pv 11) pa_nil))))))))
    (C8.pss_cut (ps_set (i := 6) nd rfl (.inl rfl) (FlC.pe_lam (X := XL P w K mg base f c A outer s H E) (x := "_law_told") (a := "_law_ask") (k := 8) (as := []) (T := TT) hg FT.mgf FT.kp lkT codeT bT sc_to rfl (.inl rfl) gv TB rfl hmT huT hr7 (lamD_by (by show lamDB nLaw (C8.fnScope sLaw) _ = true; decide +kernel)) (.none (fun _ => rfl) (fun _ _ _ _ _ _ => rfl)) (fun y hy => nomatch hy) (fun A outer s H E f c' room => pe_callB (call_lenO (E := C8.E0) FLn hsL hfL bL C8.pass0 (room.mono (by decide))) (by rfl) B.len bt_len (pa_cons (pe_call (x := "parse_map") FPM room rfl mPM kPM bPM .nil (L2.passes_call (E := E) FlC.lamN_takes fun _ _ _ _ z => z) (pa_cons (pv 4) pa_nil)) pa_nil))))
    (pss_one (ps_ret (pe_cmpR (op_eqD hr.units) (pv 6) (pe_ifExp (pt_cmpR op_lt (pv 9) pe_int (nomark _)) (pe_tup (pa_cons pe_str (pa_cons (pv 9) pa_nil))) (pe_tup (pa_cons pe_str (pa_cons pe_int pa_nil)))) (nomark _)))))))))), ?_⟩
  have p0 : ∀ {H' : Hp} {t : Addr} {x y : V}, H' t = some (.tup [x, y]) → SqT K H' t [x, y] := fun e => .inl (.inl e)
  refine ⟨_, rfl, a, ns, rfl, hs, htab, fun b sa H1 L => ?_⟩
  refine ⟨fun σ H' => Lv b sa TT H' ∧ ∃ x2 x3 x4 x5 x6 x7 x8 x9 x10 x11, σ = [some (.ref a), some (.ref b), x2, x3, x4, x5, x6, x7, x8, x9, x10, x11], ?_, ?_⟩
  · refine ⟨_, rfl, by decide, by decide, for_it (walk_range (lo := 0) (n := 5)) (fun i σ H' => Lv b sa TT H' ∧ ∃ x2 x3 x4 x5 x6 x7 x8 x9 x10 x11, σ = [some (.ref a), some (.ref b), x2, x3, x4, x5, x6, x7, x8, x9, x10, x11]) ⟨L, _, _, _, _, _, _, _, _, _, _, rfl⟩ ?_ ?_ ?_⟩
    · rintro i σ H' _ _; trivial
    · clear L
      rintro i x σ H2 H3 hi ⟨L, x2, x3, x4, x5, x6, x7, x8, x9, x10, x11, rfl⟩ ⟨rfl, rfl⟩
      refine ⟨_, rfl, _, rfl, b, sa, _, rfl, L, by decide, by decide, fun r H4 r1 u => ⟨_, _, rfl, rfl, ?_⟩⟩
      replace L := u.lv
      refine ⟨b, sa, 1 + r, 5, 2, by show [V.ref b, V.int ((1 : Int) + (r : Int)), .int 5, .int 2] ++ [] = _; rw [show (1 : Int) + (r : Int) = ((1 + r : Nat) : Int) by omega]; rfl, L, by omega, by omega, by decide, by decide, by decide, by decide, fun d H5 m u hd k _ => ?_⟩
      replace L := u.lv
      have W := k.ok.wr
      have tl0 : (mapS m.ds m.T).length ≤ 10600 := by
        have z := mapS_le (R := 26) W fun row hm => by
          obtain ⟨j, hj, e⟩ := List.mem_iff_getElem.mp hm
          exact (k.sm j row (m.ds[j]'(by rw [← k.ok.len]; exact hj)) (List.getElem?_eq_some_iff.mpr ⟨hj, e⟩) (List.getElem?_eq_getElem _)).1
        omega
      refine ⟨_, rfl, d, _, _, rfl, hd, W, fun H6 s6 => ?_⟩
      replace L := (L.same s6).lv
      refine ⟨_, rfl, b, sa, _, rfl, L, by decide, by decide, fun r2 H7 r3 u => ⟨_, rfl, by omega, by omega, ?_⟩⟩
      replace L := u.lv
      rw [Int.toNat_natCast]
      refine for_it (walk_range (lo := 0) (n := r2)) (fun j σ H' => Lv b sa TT H' ∧ ∃ (t : Str) (x5 : Option V), Asc t ∧ t.length ≤ (if j = 0 then 10600 else if j = 1 then 21240 else 42520) ∧ σ = [some (.ref a), some (.ref b), some (.int (0 + (i : Int))), some d, some (.str t), x5, x6, x7, x8, x9, x10, x11]) ⟨L, _, _, mapS_asc _ _, tl0, rfl⟩ ?_ ?_ ?_
      · rintro j σ H' _ _; trivial
      · clear L hd k W tl0
        rintro j x σ H8 H9 hj ⟨L, t, x5, ta, tz, rfl⟩ ⟨rfl, rfl⟩
        have hj2 : j = 0 ∨ j = 1 := by omega
        rcases hj2 with rfl | rfl
        · exact ⟨_, rfl, _, rfl, b, sa, t, 10600, rfl, L, ta, tz, by decide, fun t' H' u ta' tz' => ⟨u.lv, t', _, ta', tz', rfl⟩⟩
        · exact ⟨_, rfl, _, rfl, b, sa, t, 21240, rfl, L, ta, tz, by decide, fun t' H' u ta' tz' => ⟨u.lv, t', _, ta', tz', rfl⟩⟩
      · clear L hd k W tl0
        rintro σ H8 ⟨L, t, x5, ta, tz0, rfl⟩
        have tz : t.length ≤ 42520 := by
          split at tz0
          · omega
          · split at tz0 <;> omega
        clear tz0
        refine ⟨fun σ H' => Lv b sa TT H' ∧ ∃ (tt rr : Addr) (n : Nat) (u : V), Told C H' tt (Txt.split t (Str.ofString " | ")) ∧ H' rr = some (.tup [.int n, u]) ∧ PpR H' (Txt.split t (Str.ofString " | ")) u n ∧ σ = [some (.ref a), some (.ref b), some (.int (0 + (i : Int))), some d, some (.str t), x5, some (.ref tt), some (.ref rr), x8, x9, x10, x11], ?_, ?_⟩
        · refine ⟨L.tab, fun H9 e9 t9 => ?_⟩
          have u9 := L.ext e9 t9
          refine told_parse (C := C) TBT u9.lv ta (by omega) (fun E Q' hE => ⟨_, rfl, hE⟩) fun tt H' u' res => ?_
          refine ⟨_, rfl, t, rfl, ta, by omega, fun tp u n H'' s'' hrr hpp => ⟨_, _, rfl, (u'.lv.same s'').lv, tt, tp, n, u, res.up u'.lv (u'.lv.same s''), hrr, hpp, rfl⟩⟩
        rintro σ H9 ⟨L, tt, rr, n, u, hto, hrr, hpp, rfl⟩
        refine ⟨fun σ H' => Up b sa TT H9 H' ∧ ∃ td, H' td = some (.tup [.str "BadText", .int n]) ∧ σ = [some (.ref a), some (.ref b), some (.int (0 + (i : Int))), some d, some (.str t), x5, some (.ref tt), some (.ref rr), some (.ref td), x9, x10, x11], ?_, ?_⟩
        · exact ⟨_, rfl, rr, _, _, _, rfl, rfl, p0 hrr, rfl, by show 2 ≤ sizeLine; decide, fun td htd => ⟨L.same (same_new htd _), td, upd_same, rfl⟩⟩
        rintro σ H10 ⟨u10, td, htd, rfl⟩
        replace hto := hto.up L u10
        replace hrr := u10.tup L hrr
        have alk : ∀ {H' : Hp}, Same H10 H' → H10 tt = some (.tup [.str "BadText", .int n]) → Alk K H' 5 (.ref tt) (.ref td) := fun {H'} s' htt => .inr (.inr (.inr (.inr ⟨tt, td, _, _, rfl, rfl, .inr ⟨p0 (s' _ _ htt), p0 (s' _ _ htd)⟩, .cons (.inr (.inl ⟨_, rfl, rfl⟩)) (.cons (.inl ⟨_, rfl, rfl⟩) .nil), (by show 2 ≤ 3000; decide)⟩)))
        have L10 := u10.lv
        rcases ppr_cases hpp with ⟨rfl, hn⟩ | ⟨xs, hx, rfl, hd⟩
        · refine ⟨_, rfl, rr, _, _, _, rfl, rfl, p0 hrr, rfl, rfl, _, rfl, ?_⟩
          rw [show (!decide (V.non = V.non)) = false by simp]
          rcases hto with ⟨n', hn', htt⟩ | ⟨xs, hx, _⟩
          · cases hn.uniq hn'
            exact iteF (iteF ⟨_, rfl, _, rfl, _, _, rfl, alk (Same.refl _) htt, fun H' s' => ⟨_, rfl, iteF ⟨(L10.same s').lv, _, _, _, _, _, _, _, _, _, _, rfl⟩⟩⟩)
          · exact (hn.not_all hx).elim
        rcases hto with ⟨n', hn', _⟩ | ⟨xs', hx', hto⟩
        · exact (hn'.not_all hx).elim
        cases hx'.uniq hx
        replace hd := hd.up L u10
        obtain ⟨da, eda⟩ : ∃ da, u = .ref da := by
          obtain ⟨td, _, _, e, _⟩ := id hd
          exact ⟨td, e⟩
        subst eda
        have l1 : (dsX xs).length = xs.length := List.length_map _
        have l2 : (rwX xs).length = xs.length := List.length_map _
        have lp := hx.pos
        have lc := bar_count t
        rw [← hx.1] at lc
        have lf := hx.flat
        refine ⟨_, rfl, rr, _, _, _, rfl, rfl, p0 hrr, rfl, rfl, _, rfl, ?_⟩
        rw [show (!decide (V.ref da = V.non)) = true by simp]
        have bad : ∀ {H' : Hp}, Same H10 H' → ¬ (Okm (dsX xs) (rwX xs) ∧ trimAll (dsX xs) (rwX xs) = rwX xs) → Alk K H' 5 (.ref tt) (.ref td) := fun {H'} s' ng => by
          rcases hto with ⟨g, _⟩ | ⟨_, htt⟩
          · exact absurd g ng
          · exact alk s' htt
        refine iteT ⟨_, rfl, rr, _, _, _, rfl, rfl, p0 hrr, rfl, _, dsX xs, rwX xs, rfl, hd, by rw [l1, l2], by omega, by omega, by omega, hx.natP, fun o H11 s11 => ⟨_, rfl, iteT ?_⟩, fun no H11 s11 => ⟨_, rfl, iteF (iteF ?_)⟩⟩
        rotate_left
        · exact ⟨_, rfl, _, rfl, _, _, rfl, bad s11 (fun z => no z.1), fun H' s' => ⟨_, rfl, iteF ⟨(L10.same (s11.trans s')).lv, _, _, _, _, _, _, _, _, _, _, rfl⟩⟩⟩
        refine ⟨_, rfl, rr, _, _, _, rfl, rfl, p0 (s11 _ _ hrr), rfl, _, dsX xs, rwX xs, rfl, hd.mono s11, o.len, o.hi, fun r H12 s12 hr12 => ?_⟩
        have S12 := s11.trans s12
        refine ⟨_, rfl, rr, _, _, _, rfl, rfl, p0 (S12 _ _ hrr), rfl, datD (dsX xs) (trimAll (dsX xs) (rwX xs)), datD (dsX xs) (rwX xs), dp_dat hr12, dp_dat (hd.mono S12), shp_dat _ _, shp_dat _ _, _, rfl, ?_⟩
        rw [eqv_dat]
        by_cases c : trimAll (dsX xs) (rwX xs) = rwX xs
        · rw [decide_eq_true c]
          rcases hto with ⟨_, rv, htt, hm⟩ | ⟨ng, _⟩
          rotate_left
          · exact absurd ⟨o, c⟩ ng
          refine iteT ⟨_, rfl, tt, _, _, _, rfl, rfl, p0 (S12 _ _ htt), rfl, rfl, _, rfl, ?_⟩
          rw [show (!decide (V.str (Str.ofString "told") = V.str (Str.ofString "told"))) = false by simp]
          exact iteF ⟨_, rfl, tt, _, _, _, rfl, rfl, p0 (S12 _ _ htt), rfl, _, rfl, rr, _, _, _, rfl, rfl, p0 (S12 _ _ hrr), rfl, _, _, dsX xs, rwX xs, rfl, hm.mono S12, hd.mono S12, o, fun H' s' => ⟨_, rfl, iteF ⟨(L10.same (S12.trans s')).lv, _, _, _, _, _, _, _, _, _, _, rfl⟩⟩⟩
        · rw [decide_eq_false c]
          exact iteF ⟨_, rfl, _, rfl, _, _, rfl, bad S12 (fun z => c z.2), fun H' s' => ⟨_, rfl, iteF ⟨(L10.same (S12.trans s')).lv, _, _, _, _, _, _, _, _, _, _, rfl⟩⟩⟩
    · rintro σ H' h; exact h
  rintro σ H2 ⟨L, x2, x3, x4, x5, x6, x7, x8, x9, x10, x11, rfl⟩
  refine ⟨_, rfl, b, sa, _, rfl, L, by decide, by decide, fun r H3 r3 u => ⟨_, _, rfl, rfl, ?_⟩⟩
  replace L := u.lv
  obtain ⟨n, hn⟩ : ∃ n : Nat, (1999 : Int) + (r : Int) = n := ⟨1999 + r, by omega⟩
  have n3 : 3 ≤ n := by omega
  have n1 : n ≤ 2001 := by omega
  show (fun σ H => tSeq _ _ _ σ H) [some (.ref a), some (.ref b), x2, x3, x4, x5, x6, x7, x8, some (.int (1999 + (r : Int))), x10, x11] H3
  rw [hn]
  clear hn r3 u
  have w1 : ∀ m : Nat, m ≤ 4000 → m ≤ sizeLine := fun m h => Nat.le_trans h (by decide)
  refine ⟨_, rfl, _, _, rfl, rfl, w1 1 (by decide), fun l1 h1 => ⟨_, rfl, _, _, rfl, rfl, _, _, rfl, rfl, RgOk.of_le (by omega) (by omega) (by omega) (by omega), fun l2 h2 => ?_⟩⟩
  have s2 := (same_new h1 (.lst [V.int ((n : Int) - 1)])).trans (same_new h2 (.lst (rgV 1 ((n : Int) - 1))))
  have g1' := (same_new h2 (.lst (rgV 1 ((n : Int) - 1)))) _ _ (show upd H3 l1 (.lst [V.int ((n : Int) - 1)]) l1 = some (.lst [V.int ((n : Int) - 1)]) from upd_same)
  have g2' : upd (upd H3 l1 (.lst [V.int ((n : Int) - 1)])) l2 (.lst (rgV 1 ((n : Int) - 1))) l2 = some (.lst (rgV 1 ((n : Int) - 1))) := upd_same
  have erg : rgV 1 ((n : Int) - 1) = ((List.range (n - 2)).map fun (i : Nat) => (1 : Int) + (i : Int)).map V.int := by
    unfold rgV
    rw [List.map_map, show ((n : Int) - 1 - 1).toNat = n - 2 by omega]; rfl
  refine ⟨l1, l2, _, _, rfl, rfl, g1', g2', w1 _ (by rw [rgV_length]; simp only [List.length_cons, List.length_nil]; omega), fun l3 h3 => ?_⟩
  have s3 := s2.trans (same_new h3 (.lst ([V.int ((n : Int) - 1)] ++ rgV 1 ((n : Int) - 1))))
  refine ⟨w1 1 (by decide), fun l4 h4 => ?_⟩
  have g3' := (same_new h4 (.lst [V.int 0])) _ _ (show upd (upd (upd H3 l1 (.lst [V.int ((n : Int) - 1)])) l2 (.lst (rgV 1 ((n : Int) - 1)))) l3 (.lst ([V.int ((n : Int) - 1)] ++ rgV 1 ((n : Int) - 1))) l3 = some (.lst ([V.int ((n : Int) - 1)] ++ rgV 1 ((n : Int) - 1))) from upd_same)
  have s4 := s3.trans (same_new h4 (.lst [V.int 0]))
  refine ⟨l3, l4, _, _, rfl, rfl, g3', upd_same, w1 _ (by rw [List.length_append, rgV_length]; simp only [List.length_cons, List.length_nil]; omega), fun l5 h5 => ?_⟩
  have ee : [V.int ((n : Int) - 1)] ++ rgV 1 ((n : Int) - 1) ++ [V.int 0] = (endL n).map V.int := by
    rw [erg]; unfold endL; rw [List.map_append, List.map_append]; rfl
  rw [ee]
  have s5 := s4.trans (same_new h5 (.lst ((endL n).map V.int)))
  have g5' : upd (upd (upd (upd (upd H3 l1 (.lst [V.int ((n : Int) - 1)])) l2 (.lst (rgV 1 ((n : Int) - 1)))) l3 (.lst ([V.int ((n : Int) - 1)] ++ rgV 1 ((n : Int) - 1)))) l4 (.lst [V.int 0])) l5 (.lst ((endL n).map V.int)) l5 = some (.lst ((endL n).map V.int)) := upd_same
  generalize upd (upd (upd (upd (upd H3 l1 (.lst [V.int ((n : Int) - 1)])) l2 (.lst (rgV 1 ((n : Int) - 1)))) l3 (.lst ([V.int ((n : Int) - 1)] ++ rgV 1 ((n : Int) - 1)))) l4 (.lst [V.int 0])) l5 (.lst ((endL n).map V.int)) = H5 at s5 g5'
  clear g1' g2' g3' s2 s3 s4 h1 h2 h3 h4 h5
  replace L := (L.same s5).lv
  refine ⟨fun σ H' => Lv b sa TT H' ∧ σ = [some (.ref a), some (.ref b), x2, x3, some (.str (partS 0 (endR n))), x5, x6, x7, x8, some (.int n), some (.ref l5), x11], ?_, ?_⟩
  · refine ⟨⟨_, rfl⟩, w1 1 (by decide), fun l6 h6 => ?_⟩
    have s6 := same_new h6 (.lst [V.str (Str.ofString "0")])
    have g6 : upd H5 l6 (.lst [V.str (Str.ofString "0")]) l6 = some (.lst [V.str (Str.ofString "0")]) := upd_same
    have g65 := s6 _ _ g5'
    generalize upd H5 l6 (.lst [V.str (Str.ofString "0")]) = H6 at s6 g6 g65
    refine ⟨_, rfl, l5, rfl, ⟨_, SqL.of g65⟩, fun D hD => ?_⟩
    have dlen := endL_len n3
    refine lc_it (walk_list (K := K) (a := l5) (xs := (endL n).map V.int)) (fun i H' => H' = upd H6 D (.lst (((endL n).take i).map fun e => V.str (Str.ofString "0." ++ numS e)))) (by rw [List.take_zero]; rfl) ?_ ?_ ?_
    · rintro i H' _ rfl; exact SqL.of (by rw [upd_ne (ne_of_none g65 hD)]; exact g65)
    · rintro i x H7 H8 hi rfl ⟨rfl, hx⟩
      rw [List.length_map] at hi
      have hei : (endL n)[i]? = some (endL n)[i] := List.getElem?_eq_getElem hi
      rw [List.getElem?_map, hei] at hx
      have hx := (Option.some.inj hx).symm
      subst hx
      obtain ⟨e0, e1⟩ := (mem_endL n3).mp (List.getElem_mem hi)
      generalize (endL n)[i] = e at hei e0 e1
      have lgn : e.natAbs.log2 < 1920 := lg31 (by omega)
      have ln := numS_len (i := e) (k := 5) (by decide) (by omega)
      refine ⟨rfl, _, rfl, _, rfl, lgn, _, _, rfl, rfl, w1 _ (by rw [show (Str.ofString "0.").length = 2 by decide +kernel]; exact Nat.le_trans (Nat.add_le_add_left ln 2) (by decide)), _, upd_same, Nat.lt_of_le_of_lt (show _ ≤ 4000 by rw [List.length_map, List.length_take]; omega) (by decide), ?_⟩
      rw [upd_upd, take_snoc hei, List.map_append]; rfl
    rintro H7 rfl
    rw [List.length_map, List.take_length]
    have s7 := same_new hD (.lst ((endL n).map fun e => V.str (Str.ofString "0." ++ numS e)))
    refine ⟨l6, D, _, _, rfl, rfl, s7 _ _ g6, upd_same, w1 _ (by rw [List.length_map]; simp only [List.length_cons, List.length_nil]; omega), fun l8 h8 => ?_⟩
    have s8 := same_new h8 (.lst ([V.str (Str.ofString "0")] ++ (endL n).map fun e => V.str (Str.ofString "0." ++ numS e)))
    have ey : [V.str (Str.ofString "0")] ++ ((endL n).map fun e => V.str (Str.ofString "0." ++ numS e)) = (Str.ofString "0" :: (endL n).map fun e => Str.ofString "0." ++ numS e).map V.str := by
      rw [List.map_cons, List.map_map]; rfl
    refine ⟨_, l8, Str.ofString "0" :: (endL n).map fun e => Str.ofString "0." ++ numS e, rfl, rfl, .inl (SqL.of (by rw [← ey]; exact upd_same)), ?_, ?_⟩
    · have z := end_sum (endL n) fun e he => by
        have y := (mem_endL n3).mp he
        omega
      rw [List.map_cons, List.sum_cons, List.length_cons, List.length_map, dlen, show (Str.ofString "0").length = 1 by decide +kernel, show (Str.ofString " ").length = 1 by decide +kernel]
      rw [dlen] at z
      omega
    · rw [join_eq, ← end_text]
      exact ⟨(L.same (s6.trans (s7.trans s8))).lv, rfl⟩
  rintro σ H6 ⟨L, rfl⟩
  have rd := end_rd n3 n1
  have fl : [endR n].flatten.length = n := by rw [show [endR n].flatten = endR n by simp, endR_len n3]
  have tz : (partS 0 (endR n)).length ≤ 300000 := by
    have z := partS_le (d := 0) (row := endR n) (by decide) fun p hp => by
      obtain ⟨i, j, rfl, rfl, hj⟩ := endR_nat n3 p hp
      exact ⟨by show (0 : Int).natAbs < _; decide, Nat.lt_of_le_of_lt (show ((j : Nat) : Int).natAbs ≤ 2001 by omega) (by decide)⟩
    rw [endR_len n3] at z
    omega
  refine ⟨fun σ H' => ∃ tt, H' tt = some (.tup (if n < 2001 then [.str "told", .int n] else [.str "BadText", .int 1])) ∧ σ = [some (.ref a), some (.ref b), x2, x3, some (.str (partS 0 (endR n))), x5, some (.ref tt), x7, x8, some (.int n), some (.ref l5), x11], ?_, ?_⟩
  · refine ⟨L.tab, fun H9 e9 t9 => ?_⟩
    have u9 := L.ext e9 t9
    refine ⟨_, rfl, partS 0 (endR n), rfl, partS_asc _ _, tz, fun k hk => (hk.not_all rd).elim, fun xs hx => ?_⟩
    cases hx.uniq rd
    refine ⟨fun g r H' s' hm => ?_, fun ng => ?_⟩
    · have c : n < 2001 := Decidable.byContradiction fun c => not_end n3 (by omega) g.1
      obtain ⟨ma, mdx, mfs, rfl, hma⟩ := hm.at
      refine ⟨ma, mdx, mfs, rfl, hma, _, _, _, rfl, hm, _, rfl, ?_, ?_⟩
      · show (0 : Int) ≤ (([endR n].flatten.length : Nat) : Int) ∧ (([endR n].flatten.length : Nat) : Int) < 2 ^ 63
        rw [fl]; omega
      · refine ⟨(by show 2 ≤ sizeLine; decide), fun t2 ht => ⟨t2, ?_, rfl⟩⟩
        rw [upd_same, if_pos c]
        show some (HO.tup [V.str "told", V.int (([endR n].flatten.length : Nat) : Int)]) = _
        rw [fl]
    · have c : ¬ n < 2001 := fun c => ng ⟨okm_end n3 (by omega), trim_end n3 (by omega)⟩
      exact fun d H' s' e => ⟨"BadText", .int 1, TBT.caught e (tl_at (by decide)), fun t2 H2 s2 ht => ⟨t2, by rw [upd_same, if_neg c], rfl⟩⟩
  rintro σ H7 ⟨tt, htt, rfl⟩
  refine ⟨_, rfl, _, rfl, _, _, rfl, rfl, _, rfl, ?_⟩
  by_cases c : n < 2001
  · rw [if_pos c] at htt
    rw [decide_eq_true (show (n : Int) < 2001 by omega)]
    refine iteT ⟨_, rfl, (by show 2 ≤ sizeLine; decide), fun t2 ht => ⟨.tuple [.str "told", .int n], .tuple [.str "told", .int n], .tup (p0 (same_new ht _ _ _ htt)) (.cons (.str _) (.cons (.int _) .nil)), .tup (p0 upd_same) (.cons (.str _) (.cons (.int _) .nil)), shp2 _ (by decide +kernel), shp2 _ (by decide +kernel), ?_⟩⟩
    rw [show PyData.eqv (.tuple [.str "told", .int n]) (.tuple [.str "told", .int n]) = true by simp [PyData.eqv, PyData.eqvAll]]
    exact q _
  · rw [if_neg c] at htt
    rw [decide_eq_false (show ¬ (n : Int) < 2001 by omega)]
    refine iteF ⟨(by show 2 ≤ sizeLine; decide), fun t2 ht => ⟨.tuple [.str "BadText", .int 1], .tuple [.str "BadText", .int 1], .tup (p0 (same_new ht _ _ _ htt)) (.cons (.str _) (.cons (.int _) .nil)), .tup (p0 upd_same) (.cons (.str _) (.cons (.int _) .nil)), shp2 _ (by decide +kernel), shp2 _ (by decide +kernel), ?_⟩⟩
    rw [show PyData.eqv (.tuple [.str "BadText", .int 1]) (.tuple [.str "BadText", .int 1]) = true by simp [PyData.eqv, PyData.eqvAll]]
    exact q _
end
end L2.FK
namespace L2.FK
open PySem PySem.Spec PyProof.Rows L2.FL FlT LamX
section
variable {K : PySem.W.Frag} {mg : Str → Option Value} {h : Heap}
theorem has_mk {x : Str} {st : Stmt} {ps : List Str} {f : Addr} {oc : Value} {od an : Option Addr} {osl : Array (Option Value)} {kV doc pm cdv ct : Value} (X : K.In h) (G : h.Ns mainGlobals mg) (a : PySem.W.nsIn K mainGlobals x = some (some (.ref f)))
    (l : K.lookup f = some ⟨oc, od, .func (PySem.W.fnOf x x (C8.fnArgs st) (C8.fnBody st) (C8.fnScope st) .none kV doc pm an cdv ct), osl⟩) (c : PySem.W.codeIn K cdv x = true) (k : PySem.W.keepIn K (.ref f) = true)
    (hb : ∀ (kV doc pm : Value) (an : Option Addr) (cdv ct : Value) (us : List Value), us.length = ps.length → bindArgs (PySem.W.fnOf x x (C8.fnArgs st) (C8.fnBody st) (C8.fnScope st) .none kV doc pm an cdv ct) ⟨us, []⟩ = pure (ps.zip us)) : Has K mg x st ps := by
  have F : C8.Fun K x x st f _ := ⟨oc, od, .none, kV, doc, pm, an, cdv, ct, osl, rfl, l, c⟩
  exact ⟨f, _, ⟨F, PySem.W.mg_of X G a, k⟩, F.binds rfl hb⟩
theorem hasM_mk {C : Addr} {m qual : Str} {st : Stmt} {ps : List Str} {f : Addr} {oc : Value} {od an : Option Addr} {osl : Array (Option Value)} {kV doc pm cdv ct : Value} (a : PySem.W.findIn K (.ref C) m = some (some (.ref f))) (i : PySem.W.isFn K (.ref f) = true)
    (l : K.lookup f = some ⟨oc, od, .func (PySem.W.fnOf m qual (C8.fnArgs st) (C8.fnBody st) (C8.fnScope st) .none kV doc pm an cdv ct), osl⟩) (c : PySem.W.codeIn K cdv qual = true) (k : PySem.W.keepIn K (.ref f) = true)
    (hb : ∀ (kV doc pm : Value) (an : Option Addr) (cdv ct : Value) (us : List Value), us.length = ps.length → bindArgs (PySem.W.fnOf m qual (C8.fnArgs st) (C8.fnBody st) (C8.fnScope st) .none kV doc pm an cdv ct) ⟨us, []⟩ = pure (ps.zip us)) : HasM K C m qual st ps := by
  have F : C8.Fun K m qual st f _ := ⟨oc, od, .none, kV, doc, pm, an, cdv, ct, osl, rfl, l, c⟩
  exact ⟨f, _, ⟨a, i, k⟩, F, F.binds rfl hb⟩
/-- the making of a LaneMap, with goals and without -/
def HasL (K : PySem.W.Frag) (C : Addr) : Prop := ∃ f fd e, Mk K C f ∧ C8.Fun K "__init__" "LaneMap.__init__" sInit f fd ∧ Binds K fd ["self", "drifts", "goals"] [] ∧ Binds K fd ["self", "drifts", "goals"] [.ref e] ∧ ∀ H, SqT K H e []
theorem hasL_mk {C f T e : Addr} {oc oT kV doc pm cdv ct : Value} {od an oT2 oe2 : Option Addr} {osl oT4 oe4 : Array (Option Value)} {n m : Nat} (ms : PySem.W.makesIn K C = true) (a : PySem.W.findIn K (.ref C) "__init__" = some (some (.ref f))) (i : PySem.W.isFn K (.ref f) = true) (kc : PySem.W.keepIn K (.ref C) = true)
    (l : K.lookup f = some ⟨oc, od, .func (PySem.W.fnOf "__init__" "LaneMap.__init__" (C8.fnArgs sInit) (C8.fnBody sInit) (C8.fnScope sInit) (.ref T) kV doc pm an cdv ct), osl⟩) (c : PySem.W.codeIn K cdv "LaneMap.__init__" = true)
    (lT : K.lookup T = some ⟨oT, oT2, .seq #[.ref e] n, oT4⟩) (le : K.lookup e = some ⟨.type "tuple", oe2, .seq #[] m, oe4⟩) : HasL K C := by
  refine ⟨f, _, e, ⟨ms, a, i, kc⟩, ⟨oc, od, .ref T, kV, doc, pm, an, cdv, ct, osl, rfl, l, c⟩, fun s us X hlen => ?_, fun s us X hlen => ?_, fun H => .inr ⟨_, #[], m, le, rfl, rfl, by decide, .nil⟩⟩
  · match us, hlen with
    | [u1, u2, u3], _ =>
      refine BindsTo.of_looks fun M => ?_
      show PySem.W.Looks M s.heap (seqItems? (.ref T) >>= _) _
      exact looks_items X lT rfl (.of_pure rfl)
  · have hlen : us.length = 2 := by
      rw [List.length_append] at hlen
      exact Nat.succ.inj hlen
    match us, hlen with
    | [u1, u2], _ =>
      refine BindsTo.of_looks fun M => ?_
      show PySem.W.Looks M s.heap (seqItems? (.ref T) >>= _) _
      exact looks_items X lT rfl (.of_pure rfl)
theorem kit_self (K : PySem.W.Frag) (C : Addr) : PySem.W.kitOne K (.ref C) (.ref C) = some true := by
  unfold PySem.W.kitOne
  rw [if_pos (by first | exact beq_self_eq_true _ | rfl | simp)]
theorem tx_mk {C : Addr} (X : K.In h) (G : h.Ns mainGlobals mg) (pg : PySem.W.plainGet K C Str.empty = true) (hd : PySem.W.hasDictIn K C = true) (po : PySem.W.plainOver K C = true) (sa : PySem.W.findIn K (.ref C) "__setattr__" = some (some (.builtin "object.__setattr__")))
    (n1 : PySem.W.findIn K (.ref C) "shifts" = some none) (n2 : PySem.W.findIn K (.ref C) "rows" = some none) (n3 : PySem.W.findIn K (.ref C) "images" = some none) (n4 : PySem.W.findIn K (.ref C) "origins" = some none) (aC : PySem.W.nsIn K mainGlobals "LaneMap" = some (some (.ref C))) : Tx K mg C :=
  ⟨⟨pg, hd, po, sa⟩, n1, n2, n3, n4, PySem.W.mg_of X G aC⟩
theorem bl_mk {t1 t2 : Tok} (X : K.In h) (G : h.Ns mainGlobals mg) (z0 : PySem.W.nsIn K mainGlobals "len" = some none) (z1 : PySem.W.nsIn K mainGlobals "sum" = some none) (z2 : PySem.W.nsIn K mainGlobals "range" = some none) (z3 : PySem.W.nsIn K mainGlobals "enumerate" = some none) (z4 : PySem.W.nsIn K mainGlobals "max" = some none) (z5 : PySem.W.nsIn K mainGlobals "min" = some none) (z6 : PySem.W.nsIn K mainGlobals "list" = some none) (z7 : PySem.W.nsIn K mainGlobals "tuple" = some none) (z8 : PySem.W.nsIn K mainGlobals "isinstance" = some none) (z9 : PySem.W.nsIn K mainGlobals "all" = some none) (z10 : PySem.W.nsIn K mainGlobals "zip" = some none) (z11 : PySem.W.nsIn K mainGlobals "int" = some none) (z12 : PySem.W.nsIn K mainGlobals "bool" = some none) (z13 : PySem.W.nsIn K mainGlobals "str" = some none) (c1 : PySem.W.nsIn K mainGlobals "MOST_LANES" = some (some (.int 6 t1))) (c2 : PySem.W.nsIn K mainGlobals "MOST_GOALS" = some (some (.int 2000 t2))) : Bl mg :=
  ⟨PySem.W.mg_none_of X G z0, PySem.W.mg_none_of X G z1, PySem.W.mg_none_of X G z2, PySem.W.mg_none_of X G z3, PySem.W.mg_none_of X G z4, PySem.W.mg_none_of X G z5, PySem.W.mg_none_of X G z6, PySem.W.mg_none_of X G z7, PySem.W.mg_none_of X G z8, PySem.W.mg_none_of X G z9, PySem.W.mg_none_of X G z10, PySem.W.mg_none_of X G z11, PySem.W.mg_none_of X G z12, PySem.W.mg_none_of X G z13, ⟨_, PySem.W.mg_of X G c1⟩, ⟨_, PySem.W.mg_of X G c2⟩⟩
theorem fun_mk {m qual : Str} {st : Stmt} {ps : List Str} {f : Addr} {oc : Value} {od an : Option Addr} {osl : Array (Option Value)} {kV doc pm cdv ct : Value}
    (l : K.lookup f = some ⟨oc, od, .func (PySem.W.fnOf m qual (C8.fnArgs st) (C8.fnBody st) (C8.fnScope st) .none kV doc pm an cdv ct), osl⟩) (c : PySem.W.codeIn K cdv qual = true)
    (hb : ∀ (kV doc pm : Value) (an : Option Addr) (cdv ct : Value) (us : List Value), us.length = ps.length → bindArgs (PySem.W.fnOf m qual (C8.fnArgs st) (C8.fnBody st) (C8.fnScope st) .none kV doc pm an cdv ct) ⟨us, []⟩ = pure (ps.zip us)) : ∃ fd, C8.Fun K m qual st f fd ∧ Binds K fd ps [] := by
  have F : C8.Fun K m qual st f _ := ⟨oc, od, .none, kV, doc, pm, an, cdv, ct, osl, rfl, l, c⟩
  exact ⟨_, F, F.binds rfl hb⟩
theorem oex_mk {C : Addr} {nm q N bs bm sn sub ab col dd k0 k1 k2 k3 k5} (l : K.lookup C = some (excClassObj nm q C N bs bm true sn sub ab col dd k0 k1 k2 k3 k5 "ValueError.__new__")) (r : HandSPX.refsVE bm = true) (sa : PySem.W.findIn K (.ref C) "__setattr__" = some (some (.builtin "object.__setattr__")))
    (ex : PySem.W.subIn K (.ref C) (.type "BaseException") = some true) (ty : PySem.W.typeIn K (.ref C) = some (.type "type")) (kc : PySem.W.keepIn K (.ref C) = true) : OexC K C := ⟨⟨nm, q, N, bs, bm, sn, sub, ab, col, dd, k0, k1, k2, k3, k5, l, r⟩, sa, ex, ty, kc⟩
theorem no_mk {C : Addr} (n0 : PySem.W.findIn K (.ref C) "word" = some none) (n1 : PySem.W.findIn K (.ref C) "place" = some none) (n2 : PySem.W.findIn K (.ref C) "most" = some none) (n3 : PySem.W.findIn K (.ref C) "lane" = some none) (n4 : PySem.W.findIn K (.ref C) "at" = some none) (n5 : PySem.W.findIn K (.ref C) "name" = some none) (n6 : PySem.W.findIn K (.ref C) "spot" = some none) (n7 : PySem.W.findIn K (.ref C) "degree" = some none) (n8 : PySem.W.findIn K (.ref C) "by" = some none) (n9 : PySem.W.findIn K (.ref C) "count" = some none) (n10 : PySem.W.findIn K (.ref C) "row" = some none) : ∀ n ∈ xNames, PySem.W.findIn K (.ref C) n = some none := fun n hn => by
  simp only [xNames, List.mem_cons, List.not_mem_nil, or_false] at hn
  rcases hn with rfl | rfl | rfl | rfl | rfl | rfl | rfl | rfl | rfl | rfl | rfl
  · exact n0
  · exact n1
  · exact n2
  · exact n3
  · exact n4
  · exact n5
  · exact n6
  · exact n7
  · exact n8
  · exact n9
  · exact n10
theorem xi_mk {BP g : Addr} {q : Str} {st : Stmt} {ps : List Str} (a : PySem.W.findIn K (.ref BP) "__init__" = some (some (.ref g))) (t : PySem.W.typeIn K (.ref g) = some (.type "function")) (F : ∃ fd, C8.Fun K "__init__" q st g fd ∧ Binds K fd ps []) :
    ∃ g fd, PySem.W.findIn K (.ref BP) "__init__" = some (some (.ref g)) ∧ PySem.W.typeIn K (.ref g) = some (.type "function") ∧ C8.Fun K "__init__" q st g fd ∧ Binds K fd ps [] := let ⟨fd, a1, a2⟩ := F; ⟨g, fd, a, t, a1, a2⟩
theorem le_mk {LE g : Addr} (a : PySem.W.findCls K (.ref LE) (.type "type") "__init__" = some (.val (.ref g))) (k : PySem.W.keepIn K (.ref g) = true) (r1 : PySem.W.readsIn K LE (.type "type") = true) (r2 : PySem.W.specialIn K (.ref LE) "__getattribute__" = some (some (.builtin "type.__getattribute__"))) (F : ∃ fd, C8.Fun K "__init__" "LaneError.__init__" sLEI g fd ∧ Binds K fd ["self"] []) :
    ∃ g fd, C8.Fun K "__init__" "LaneError.__init__" sLEI g fd ∧ Binds K fd ["self"] [] ∧ PySem.W.keepIn K (.ref g) = true ∧ ClX.CRead K LE (.type "type") ∧ PySem.W.findCls K (.ref LE) (.type "type") "__init__" = some (.val (.ref g)) := let ⟨fd, a1, a2⟩ := F; ⟨g, fd, a1, a2, k, ⟨r1, r2⟩, a⟩
end
/-- what the top has left of an exception's class -/
structure XOne (K : PySem.W.Frag) (mg : Str → Option Value) (x q : Str) (st : Stmt) (ps : List Str) (BP LE MI NL : Addr) : Prop where
  e4 : mg x = some (.ref BP)
  ex : Exc1 K BP
  xf : XfC K BP
  exm : PySem.W.exmAny K (.ref BP) [.ref LE, .ref MI, .ref NL] = some true
  bp : ∃ g fd, PySem.W.findIn K (.ref BP) "__init__" = some (some (.ref g)) ∧ PySem.W.typeIn K (.ref g) = some (.type "function") ∧ C8.Fun K "__init__" q st g fd ∧ Binds K fd ps []
structure XAll (K : PySem.W.Frag) (mg : Str → Option Value) (LE MI NL : Addr) : Prop where
  e1 : mg "LaneError" = some (.ref LE)
  e2 : mg "Missing" = some (.ref MI)
  e3 : mg "NothingLeft" = some (.ref NL)
  le : ∃ g fd, C8.Fun K "__init__" "LaneError.__init__" sLEI g fd ∧ Binds K fd ["self"] [] ∧ PySem.W.keepIn K (.ref g) = true ∧ ClX.CRead K LE (.type "type") ∧ PySem.W.findCls K (.ref LE) (.type "type") "__init__" = some (.val (.ref g))
theorem mw_mk {K : PySem.W.Frag} {mg : Str → Option Value} {h : Heap} {t : Tok} (X : K.In h) (G : h.Ns mainGlobals mg) (c : PySem.W.nsIn K mainGlobals "MOST_WRITTEN" = some (some (.int 999999999999999999999999999999 t))) : ∃ t, mg "MOST_WRITTEN" = some (.int M30 t) :=
  ⟨t, PySem.W.mg_of X G c⟩
/-- all that the law needs of the top -/
structure All (K : PySem.W.Frag) (mg : Str → Option Value) (C XBadGoal XBadLanes XBadText XNotBijective XTooWide LE MI NL : Addr) : Prop where
  bl : Bl mg
  tx : Tx K mg C
  ml : HasL K C
  xa : XAll K mg LE MI NL
  ic : C8.InsC K C
  mw : ∃ t, mg "MOST_WRITTEN" = some (.int M30 t)
  sbBadLanes : PySem.W.exmOne K (.ref XBadLanes) (.ref LE) = some true
  sbTooWide : PySem.W.exmOne K (.ref XTooWide) (.ref LE) = some true
  sbBadGoal : PySem.W.exmOne K (.ref XBadGoal) (.ref LE) = some true
  sbNotBijective : PySem.W.exmOne K (.ref XNotBijective) (.ref LE) = some true
  xBadGoal : XOne K mg "BadGoal" "BadGoal.__init__" s_i_BadGoal ["self", "place"] XBadGoal LE MI NL
  xBadLanes : XOne K mg "BadLanes" "BadLanes.__init__" s_i_BadLanes ["self"] XBadLanes LE MI NL
  xBadText : XOne K mg "BadText" "BadText.__init__" s_i_BadText ["self", "at"] XBadText LE MI NL
  xNotBijective : XOne K mg "NotBijective" "NotBijective.__init__" s_i_NotBijective ["self", "place"] XNotBijective LE MI NL
  xTooWide : XOne K mg "TooWide" "TooWide.__init__" s_i_TooWide ["self", "most"] XTooWide LE MI NL
  d_natural_of : Has K mg "natural_of" t_natural_of ["text", "most"]
  d_integer_of : Has K mg "integer_of" t_integer_of ["text", "most"]
  d_place_of : Has K mg "place_of" t_place_of ["text", "most"]
  d_place_text : Has K mg "place_text" t_place_text ["place"]
  d_check_lanes : Has K mg "check_lanes" sCheckLanes ["lanes"]
  d_check_width : Has K mg "check_width" sCheckWidth ["bounds"]
  d_is_place : Has K mg "is_place" sIsPlace ["lanes", "place"]
  d_copied_rows : Has K mg "copied_rows" sCopied ["lanes", "goals"]
  d_check_images : Has K mg "check_images" sImages ["drifts", "rows"]
  d_check_bijective : Has K mg "check_bijective" sBijective ["drifts", "rows"]
  d_first_wrong : Has K mg "first_wrong" sWrong ["counts", "start"]
  d_trimmed : Has K mg "trimmed" sTrimmed ["lane", "drift", "row"]
  d_part_text : Has K mg "part_text" t_part_text ["drift", "row"]
  d_format_map : Has K mg "format_map" t_format_map ["lane_map"]
  d_read_part : Has K mg "read_part" t_read_part ["part"]
  d_read_parts : Has K mg "read_parts" t_read_parts ["text"]
  d_parse_map : Has K mg "parse_map" t_parse_map ["text"]
  d__law_bag : Has K mg "_law_bag" sBag ["_law_script"]
  d__law_pull : Has K mg "_law_pull" sPull ["_law_bag_here", "_law_size"]
  d__law_of : Has K mg "_law_of" sOf ["_law_bag_here", "_law_some"]
  d__law_drifts : Has K mg "_law_drifts" sDrifts ["_law_bag_here", "_law_wide", "_law_steps"]
  d__law_deal : Has K mg "_law_deal" sDeal ["_law_bag_here", "_law_drifts_here", "_law_more"]
  d__law_any : Has K mg "_law_any" sAny ["_law_bag_here", "_law_wide", "_law_steps", "_law_more"]
  d__law_least : Has K mg "_law_least" sLeast ["_law_d"]
  d__law_is_map : Has K mg "_law_is_map" sIsMap ["_law_found", "_law_d"]
  d__law_like : Has K mg "_law_like" sLike ["_law_found", "_law_due"]
  d__law_field : Has K mg "_law_field" sField ["_law_e"]
  d__law_told : Has K mg "_law_told" sTold ["_law_ask"]
  d__law_map_text : Has K mg "_law_map_text" t__law_map_text ["_law_d"]
  d__law_number_in : Has K mg "_law_number_in" t__law_number_in ["_law_word"]
  d__law_place_in : Has K mg "_law_place_in" t__law_place_in ["_law_word"]
  d__law_parts_in : Has K mg "_law_parts_in" t__law_parts_in ["_law_text"]
  d__law_is_model : Has K mg "_law_is_model" t__law_is_model ["_law_d"]
  d__law_bent : Has K mg "_law_bent" t__law_bent ["_law_bag_here", "_law_text"]
  m___len__ : HasM K C "__len__" "LaneMap.__len__" (inClass sMap 8) ["self"]
  m___str__ : HasM K C "__str__" "LaneMap.__str__" (inClass sMap 10) ["self"]
  m_drifts : HasM K C "drifts" "LaneMap.drifts" (inClass sMap 2) ["self"]
  m_goals : HasM K C "goals" "LaneMap.goals" (inClass sMap 4) ["self"]
theorem law_of {P : Program} {w : World} {K : PySem.W.Frag} {mg : Str → Option Value} {base : Heap} {C XBadGoal XBadLanes XBadText XNotBijective XTooWide LE MI NL c0 Tb0 f : Addr} {oc dV kV doc pm ct : Value} {od an : Option Addr} {osl : Array (Option Value)} (A : All K mg C XBadGoal XBadLanes XBadText XNotBijective XTooWide LE MI NL)
    (lk : K.lookup f = some ⟨oc, od, .func (PySem.W.fnOf "law" "law" (C8.fnArgs sLaw) (C8.fnBody sLaw) (C8.fnScope sLaw) dV kV doc pm an (.ref c0) ct), osl⟩) (code : PySem.W.codeIn K (.ref c0) "law" = true) (TB0 : TabB base mg c0 Tb0) :
    FnOk P w K mg base C8.CX0 12 f (PySem.W.fnOf "law" "law" (C8.fnArgs sLaw) (C8.fnBody sLaw) (C8.fnScope sLaw) dV kV doc pm an (.ref c0) ct) ["_law_script"] (spLaw K [(Tb0, qLam)]) := by
  have B := A.bl
  obtain ⟨TT, eTT⟩ : ∃ TT : List (Addr × Str), TT = [(Tb0, qLam)] := ⟨_, rfl⟩
  rw [← eTT]
  have hm0 : (Tb0, qLam) ∈ TT := by rw [eTT]; simp
  have hu0 : ∀ p ∈ TT, p.1 = Tb0 → p.2 = qLam := fun p hp e => by
    rw [eTT] at hp
    simp only [List.mem_cons, List.not_mem_nil, or_false] at hp
    rcases hp with rfl
    · rfl
  have cPull := ok_pull (P := P) (w := w) (base := base) A.d__law_pull B
  have gPull := fun TT => w_pull (TT := TT) cPull
  have cO := ok_of A.d__law_of B cPull
  have gOf := fun TT => w_of (TT := TT) cO
  have cNt := ok_natural (P := P) (w := w) (base := base) A.d_natural_of B
  have cIt := ok_integer A.d_integer_of cNt
  have cPlo := ok_place_of A.d_place_of cNt
  obtain ⟨gE, fdE, FE, bE, kE, rE, aE⟩ := A.xa.le
  have LEi := kE
  have LEi_BadText := LEi
  obtain ⟨g_BadText, fd_BadText, i_BadText, t_BadText, F_BadText, b_BadText⟩ := A.xBadText.bp
  have mkBadText : ∀ base, Mks P w K mg base 2 "BadText" XBadText ["self", "at"] (spXF K "BadText" "at") := fun base => ⟨A.xBadText.ex, A.xBadText.e4, g_BadText, fd_BadText, i_BadText, t_BadText, ok_i_BadText F_BadText FE bE kE A.xa.e1 rE aE, b_BadText⟩
  have cCL : C8.Cal P w K mg base 1 "check_lanes" spCL [] := ok_check_lanes A.d_check_lanes B
  have cCR := ok_copied (P := P) (w := w) (base := base) A.d_copied_rows B
  have cCW := ok_check_width (P := P) (w := w) (base := base) A.d_check_width B
  have cIP := ok_is_place (P := P) (w := w) (base := base) A.d_is_place
  have cCI := ok_images A.d_check_images B cIP
  have cFW := ok_wrong (P := P) (w := w) (base := base) A.d_first_wrong B
  have cCB := ok_bijective A.d_check_bijective B cFW
  have cTrB := fun base => ok_trimmed (P := P) (w := w) (base := base) A.d_trimmed B
  have cTr := cTrB base
  obtain ⟨fI, fdI, eI, mkI, FI, bI, bI1, sqI⟩ := A.ml
  have FnI := ok_init FI A.tx B cCL cCR cCW cCI cCB cTr
  have cM : C8.Mak P w K mg base 3 "LaneMap" C (spInit K C) [] := ⟨fI, fdI, _, [], mkI, FnI, A.tx.mgC, bI, .nil⟩
  have cM1 : C8.Mak P w K mg base 3 "LaneMap" C (spInit K C) [.ref eI] := ⟨fI, fdI, _, [.ref eI], mkI, FnI, A.tx.mgC, bI1, .cons rfl .nil⟩
  have LEi_BadLanes := LEi
  obtain ⟨g_BadLanes, fd_BadLanes, i_BadLanes, t_BadLanes, F_BadLanes, b_BadLanes⟩ := A.xBadLanes.bp
  have mkBadLanes : ∀ base, Mks P w K mg base 2 "BadLanes" XBadLanes ["self"] (spXI K "BadLanes") := fun base => ⟨A.xBadLanes.ex, A.xBadLanes.e4, g_BadLanes, fd_BadLanes, i_BadLanes, t_BadLanes, ok_i_BadLanes F_BadLanes FE bE kE A.xa.e1 rE aE, b_BadLanes⟩
  have mCL := fun base => may_lanes (P := P) (w := w) (base := base) A.d_check_lanes B (mkBadLanes base)
  have LEi_TooWide := LEi
  obtain ⟨g_TooWide, fd_TooWide, i_TooWide, t_TooWide, F_TooWide, b_TooWide⟩ := A.xTooWide.bp
  have mkTooWide : ∀ base, Mks P w K mg base 2 "TooWide" XTooWide ["self", "most"] (spXF K "TooWide" "most") := fun base => ⟨A.xTooWide.ex, A.xTooWide.e4, g_TooWide, fd_TooWide, i_TooWide, t_TooWide, ok_i_TooWide F_TooWide FE bE kE A.xa.e1 rE aE, b_TooWide⟩
  have mCW := fun base => may_width (P := P) (w := w) (base := base) A.d_check_width B (mkTooWide base)
  have LEi_BadGoal := LEi
  obtain ⟨g_BadGoal, fd_BadGoal, i_BadGoal, t_BadGoal, F_BadGoal, b_BadGoal⟩ := A.xBadGoal.bp
  have mkBadGoal : ∀ base, Mks P w K mg base 2 "BadGoal" XBadGoal ["self", "place"] (spXF K "BadGoal" "place") := fun base => ⟨A.xBadGoal.ex, A.xBadGoal.e4, g_BadGoal, fd_BadGoal, i_BadGoal, t_BadGoal, ok_i_BadGoal F_BadGoal FE bE kE A.xa.e1 rE aE, b_BadGoal⟩
  have LEi_NotBijective := LEi
  obtain ⟨g_NotBijective, fd_NotBijective, i_NotBijective, t_NotBijective, F_NotBijective, b_NotBijective⟩ := A.xNotBijective.bp
  have mkNotBijective : ∀ base, Mks P w K mg base 2 "NotBijective" XNotBijective ["self", "place"] (spXF K "NotBijective" "place") := fun base => ⟨A.xNotBijective.ex, A.xNotBijective.e4, g_NotBijective, fd_NotBijective, i_NotBijective, t_NotBijective, ok_i_NotBijective F_NotBijective FE bE kE A.xa.e1 rE aE, b_NotBijective⟩
  have cPT := ok_place_text (P := P) (w := w) (base := base) A.d_place_text
  have cPart := ok_part_text A.d_part_text B cPT
  obtain ⟨fS, fdS, meS, FS0, bS⟩ := A.m___str__
  have FSt := ok_strB A.tx B FS0 cPart
  have mSt : StrM K C fS := ⟨meS.at_, meS.fn⟩
  have cFm := ok_format A.d_format_map B FSt mSt bS
  have cBag := ok_bag (P := P) (w := w) (base := base) A.d__law_bag B
  have gBag := fun TT => w_bag (TT := TT) cBag
  have cLs := ok_least (P := P) (w := w) (base := base) A.d__law_least B
  have cDl := ok_deal A.d__law_deal B cPull
  have cDr := ok_drf A.d__law_drifts B cPull
  have cAn := ok_any A.d__law_any cLs cDl cDr
  have gAny := fun TT => w_any (TT := TT) cAn
  have cMT := ok_map_text (P := P) (w := w) (base := base) A.d__law_map_text B
  have cLk := ok_like (P := P) (w := w) (base := base) A.d__law_like B 5
  have mD := ok_drifts (P := P) (w := w) (base := base) A.tx B A.m_drifts
  have mG := ok_goals (P := P) (w := w) (base := base) A.tx B A.m_goals
  have cIM := ok_is_map A.d__law_is_map A.tx B A.ic mD mG cLk
  have xtBadText : XTop K XBadText LE MI NL := ⟨A.xBadText.exm, A.xBadText.xf, A.xBadText.ex.no⟩
  have cNi := ok_number_in (P := P) (w := w) (base := base) A.d__law_number_in B
  have cPi := ok_place_in A.d__law_place_in B cNi
  have cPp := ok_parts_in A.d__law_parts_in B cNi cPi
  have cIs := ok_is_model (P := P) (w := w) (base := base) A.d__law_is_model B
  have cBx := ok_bentx (TT := TT) A.d__law_bent B (gPull TT) (gOf TT)
  have cRx := ok_read_partx (P := P) (w := w) (base := base) A.d_read_part B A.mw cIt cPlo
  have mR := may_read_parts A.d_read_parts B cRx (mkBadText base)
  have FE0 := may_initE (C := C) FI B (mCL base) (may_copied A.d_copied_rows B (mkBadLanes base)) (mCW base) (may_images A.d_check_images B cIP (mkBadGoal base)) (may_bij A.d_check_bijective B (ok_wrongA A.d_first_wrong B) (mkNotBijective base))
  have FI' := fn_or (fn_cx (FnI.mono (by decide : 3 ≤ 5))) FE0
  have mkH : MksH P w K mg base 2 "BadText" XBadText ["self", "at"] (spXF K "BadText" "at") := ⟨A.xBadText.ex, A.xBadText.e4, g_BadText, fd_BadText, i_BadText, t_BadText, ok_i_BadTextH F_BadText FE bE kE A.xa.e1 rE aE, b_BadText⟩
  have sub : ∀ X ∈ [XBadLanes, XTooWide, XBadGoal, XNotBijective], PySem.W.exmOne K (.ref X) (.ref LE) = some true := fun X hX => by
    simp only [List.mem_cons, List.not_mem_nil, or_false] at hX
    rcases hX with rfl | rfl | rfl | rfl
    · exact A.sbBadLanes
    · exact A.sbTooWide
    · exact A.sbBadGoal
    · exact A.sbNotBijective
  obtain ⟨fPM, fdPM, FPM, mPM, kPM, bPM⟩ := mayC_parse_map A.d_parse_map B mR cFm mkI FI' A.tx.mgC bI A.xa.e1 sub mkH (mkBadText base)
  obtain ⟨fL, fdL, meL, FL0, bL⟩ := A.m___len__
  have FL := ok_lenm (P := P) (w := w) (base := base) A.tx B FL0
  exact ok_law lk code TB0 hm0 hu0 B (gBag TT) (gPull TT) (gAny TT) cBx cMT cPp cIs cLs cLk cIM A.d__law_told A.d__law_field A.xa.e1 A.xa.e2 A.xa.e3 FPM mPM kPM bPM FL meL.at_ meL.fn bL xtBadText
theorem law_at {l : PySem.W.OpenLaw} {w : World} {K : PySem.W.Frag} {h : Heap} {mg : Str → Option Value} {fa C XBadGoal XBadLanes XBadText XNotBijective XTooWide LE MI NL c0 Tb0 f4 : Addr} (X : K.In h) (G : h.Ns mainGlobals mg) (hfa : mg "law" = some (.ref fa)) (A : All K mg C XBadGoal XBadLanes XBadText XNotBijective XTooWide LE MI NL)
    {od4 an4 : Option Addr} {sl4 : Array (Option Value)} {oc4 kV4 dc4 pm4 ct4 : Value}
    (a4 : PySem.W.nsIn K mainGlobals "law" = some (some (.ref f4))) (l4 : K.lookup f4 = some ⟨oc4, od4, .func (PySem.W.fnOf "law" "law" (C8.fnArgs sLaw) (C8.fnBody sLaw) (C8.fnScope sLaw) .none kV4 dc4 pm4 an4 (.ref c0) ct4), sl4⟩) (c4 : PySem.W.codeIn K (.ref c0) "law" = true)
    (hTs : ∀ P ∈ [Tb0], h.get? P = some { cls := .none, data := .fields #[] }) (hcd0 : PySem.W.codeHdIn K c0 Tb0 = true) (nT0 : K.lookup Tb0 = none) : LawAtS l w K C8.CX0 12 63 "_law_script" mg fa h := by
  have e := hfa.symm.trans (PySem.W.mg_of X G a4)
  cases e
  have all : ∀ {Pr : Addr × Addr → Prop}, Pr (c0, Tb0) → ∀ p ∈ [(c0, Tb0)], Pr p := fun {Pr} h0 p hp => by
    simp only [List.mem_cons, List.not_mem_nil, or_false] at hp
    rcases hp with rfl
    · exact h0
  refine ⟨PySem.W.fnOf "law" "law" (C8.fnArgs sLaw) (C8.fnBody sLaw) (C8.fnScope sLaw) .none kV4 dc4 pm4 an4 (.ref c0) ct4, [(c0, Tb0)], spLaw K [(Tb0, qLam)], all (hTs _ (by simp)), all nT0, all (PySem.W.codeHd_of_K X hcd0), fun s u => .of_eq rfl, fun H a ns _ _ hH hS => ⟨a, ns, rfl, hS, fun p hp => ?_, fun _ => rfl⟩,
    fun base _ _ hB => law_of A l4 c4 (hB (c0, Tb0) (by simp))⟩
  simp only [List.mem_cons, List.not_mem_nil, or_false] at hp
  rcases hp with rfl
  · exact TabS.nil (hH (c0, Tb0) (by simp))
theorem walk {l : PySem.W.OpenLaw} {q : Program} {loose : List Str} {XP : (Str → Option Value) → Heap → Prop} {YP : World → Heap → Prop} {d : DefRec} {K : Params → PySem.W.Frag} (hn : l.most = some 63) (hdf : d.params.defaults = [])
    (hY : ∀ (w : World) (h : Heap), YP w h → (K w.params).In h)
    (F : ∀ (w : World) (mg : Str → Option Value) (fa : Addr) (h : Heap), YP w h → (K w.params).In h → h.Ns mainGlobals mg → mg d.name = some (.ref fa) → LawAtS l w (K w.params) C8.CX0 12 63 "_law_script" mg fa h) :
    PySem.W.WalkO q loose XP YP l.row.toRowW d [] (fun f vs => PySem.call f vs) :=
  LamX.walk_ofTs (n := 63) (k := 12) (x := "_law_script") (CX := fun _ => C8.CX0) hn (by decide) hdf ⟨rfl, by decide, by decide⟩ hY F fun _ _ _ _ _ z => z
end L2.FK
/-! The end by hookX: the top is run in the kernel, nothing of it is written out. Facts of K by Bools. -/
namespace Hk
open PySem PySem.Spec PyProof.Rows L2
theorem all_at {l : List Bool} (h : l.all id = true) (i : Nat) {b : Bool} (e : l[i]? = some b) : b = true := List.all_eq_true.mp h b (List.mem_of_getElem? e)
/-- the i-th Bool of a list of a K -/
theorem ex_at {exs : PySem.W.Frag → List Bool} {K : PySem.W.Frag} (h : (exs K).all id = true) (i : Nat) {b : Bool} (e : (exs K)[i]? = some b) : b = true := all_at h i e
theorem fun_of {K : PySem.W.Frag} {x q : Str} {st : Stmt} {dvs : List V} {kws : List (Str × V)} {f : Addr} {fd : FuncData} (F : FunD K x q (C8.fnArgs st) (C8.fnBody st) (C8.fnScope st) dvs kws f fd) : C8.Fun K x q st f fd := by
  obtain ⟨⟨oc, od, dV, kV, doc, pm, an, cdv, ct, osl, e, l, c, _, _⟩, _⟩ := F
  exact ⟨oc, od, dV, kV, doc, pm, an, cdv, ct, osl, e, l, c⟩
/-- a def without defaults -/
theorem lk_of {K : PySem.W.Frag} {x q : Str} {ar : Arguments} {bd : List Stmt} {sc : Scope} {f : Addr} {fd : FuncData} (F : FunD K x q ar bd sc [] [] f fd) :
    ∃ oc od kV doc pm an cdv ct osl, K.lookup f = some ⟨oc, od, .func (PySem.W.fnOf x q ar bd sc .none kV doc pm an cdv ct), osl⟩ ∧ PySem.W.codeIn K cdv q = true ∧ PySem.W.keepIn K (.ref f) = true := by
  obtain ⟨⟨oc, od, dV, kV, doc, pm, an, cdv, ct, osl, rfl, l, c, d, _⟩, k⟩ := F
  rcases d with ⟨_, rfl⟩ | ⟨n, _⟩
  · exact ⟨oc, od, kV, doc, pm, an, cdv, ct, osl, l, c, k⟩
  · exact absurd rfl n
/-- a def that makes lambdas: its code object told -/
theorem lkC_of {K : PySem.W.Frag} {x q : Str} {ar : Arguments} {bd : List Stmt} {sc : Scope} {p : Str × Option Str} {fd : FuncData} (F : FunD K x q ar bd sc [] [] (He.fAd K p) fd) :
    ∃ oc od kV doc pm an ct osl, K.lookup (He.fAd K p) = some ⟨oc, od, .func (PySem.W.fnOf x q ar bd sc .none kV doc pm an (.ref (He.codeOf K p)) ct), osl⟩ ∧ PySem.W.codeIn K (.ref (He.codeOf K p)) q = true ∧ PySem.W.keepIn K (.ref (He.fAd K p)) = true := by
  obtain ⟨oc, od, kV, doc, pm, an, cdv, ct, osl, l, c, k⟩ := lk_of F
  obtain ⟨c', rfl⟩ := He.codeIn_ref c
  have e := He.codeOf_eq l rfl
  rw [← e] at l c
  exact ⟨oc, od, kV, doc, pm, an, ct, osl, l, c, k⟩
/-- a def with one default, an object -/
theorem lkD_of {K : PySem.W.Frag} {x q : Str} {ar : Arguments} {bd : List Stmt} {sc : Scope} {f e : Addr} {fd : FuncData} (F : FunD K x q ar bd sc [.ref e] [] f fd) :
    ∃ oc od T kV doc pm an cdv ct osl oT oT2 n oT4, K.lookup f = some ⟨oc, od, .func (PySem.W.fnOf x q ar bd sc (.ref T) kV doc pm an cdv ct), osl⟩ ∧ PySem.W.codeIn K cdv q = true ∧ K.lookup T = some ⟨oT, oT2, .seq #[.ref e] n, oT4⟩ := by
  obtain ⟨⟨oc, od, dV, kV, doc, pm, an, cdv, ct, osl, rfl, l, c, d, _⟩, k⟩ := F
  rcases d with ⟨z, _⟩ | ⟨_, T, o, its, n, rfl, lT, hd, hv⟩
  · cases z
  · cases hv with
    | cons r t =>
      cases t
      cases r
      obtain ⟨o1, o2, o3, o4⟩ := o
      have hd : o3 = .seq #[.ref e] n := hd
      subst hd
      exact ⟨oc, od, T, kV, doc, pm, an, cdv, ct, osl, o1, o2, n, o4, l, c, lT⟩
/-- an empty tuple -/
def eTupB (K : PySem.W.Frag) (e : Addr) : Bool := match K.lookup e with
  | some ⟨.type c, _, .seq its _, _⟩ => decide (c = "tuple") && its.isEmpty
  | _ => false
theorem eTupB_ok {K : PySem.W.Frag} {e : Addr} (h : eTupB K e = true) : ∃ (o2 : Option Addr) (m : Nat) (o4 : Array (Option Value)), K.lookup e = some ⟨.type "tuple", o2, .seq #[] m, o4⟩ := by
  unfold eTupB at h
  cases q : K.lookup e with
  | none => rw [q] at h; cases h
  | some o =>
    obtain ⟨oc, od, dt, osl⟩ := o
    rw [q] at h
    cases oc with
    | type c =>
      cases dt with
      | seq its n =>
        obtain ⟨h1, h2⟩ := He.ba h
        have e1 : c = "tuple" := of_decide_eq_true h1
        have e2 := Array.isEmpty_iff.mp h2
        subst e1 e2
        exact ⟨od, n, osl, rfl⟩
      | _ => cases h
    | _ => cases dt <;> cases h
/-- an own exception class over ValueError -/
def oexB (K : PySem.W.Frag) (C : Addr) : Bool := match K.lookup C with
  | some ⟨.type t, _, .cls cd, sl⟩ => (match cd.mro, sl.toList with
    | .ref C' :: bm, [_, _, _, _, some (.builtin n), _] => decide (t = "type") && (decide (C' = C) && (decide (n = "ValueError.__new__") && (!cd.hasDel && (cd.hasDict && PySem.HandSPX.refsVE bm))))
    | _, _ => false)
  | _ => false
theorem oexB_ok {K : PySem.W.Frag} {C : Addr} (q : oexB K C = true) : ∃ nm q N bs bm sn sub ab col dd k0 k1 k2 k3 k5, K.lookup C = some (excClassObj nm q C N bs bm true sn sub ab col dd k0 k1 k2 k3 k5 "ValueError.__new__") ∧ PySem.HandSPX.refsVE bm = true := by
  unfold oexB at q
  split at q
  · rename_i t dd cd sl ho
    split at q
    · rename_i C' bm k0 k1 k2 k3 n k5 hm hs
      obtain ⟨q0, q⟩ := He.ba q
      obtain ⟨q1, q⟩ := He.ba q
      obtain ⟨q2, q⟩ := He.ba q
      obtain ⟨q3, q⟩ := He.ba q
      obtain ⟨q4, q5⟩ := He.ba q
      have e0 := of_decide_eq_true q0
      have e1 := of_decide_eq_true q1
      have e2 := of_decide_eq_true q2
      subst e0 e1 e2
      obtain ⟨nm, bs, mro, ns, qn, hd, sn, sub, ab, col, del⟩ := cd
      dsimp only at hm q3 q4
      simp only [Bool.not_eq_true'] at q3
      subst hm q3 q4
      have hsl : sl = #[k0, k1, k2, k3, some (.builtin "ValueError.__new__"), k5] := by
        obtain ⟨l⟩ := sl
        simp only at hs
        rw [hs]
      subst hsl
      exact ⟨nm, qn, ns, bs, bm, sn, sub, ab, col, dd, k0, k1, k2, k3, k5, ho, q5⟩
    · cases q
  · cases q
/-- C.m is the function f, read off the class -/
def cfnB (K : PySem.W.Frag) (C : Addr) (m : Str) (f : Addr) : Bool := match PySem.W.findCls K (.ref C) (.type "type") m with
  | some (.val (.ref g)) => decide (g = f)
  | _ => false
theorem cfnB_ok {K : PySem.W.Frag} {C f : Addr} {m : Str} (h : cfnB K C m f = true) : PySem.W.findCls K (.ref C) (.type "type") m = some (.val (.ref f)) := by
  unfold cfnB at h
  split at h
  · rename_i g e
    rw [e, of_decide_eq_true h]
  · cases h
/-! ### hookX with the statics' namespace among the roots -/
open He
def roots (g : Addr → Option Obj) (n : Nat) : List Addr := PySem.cStatics :: asD g n
def obsY (n : Nat) (fa : List Fa) (fn : List DefD) (ts : List Tab) (tf : List Defn) (ex : PySem.W.Frag → Bool) (g : Addr → Option Obj) : AlX := (obsT fa fn ts (frT g (roots g n)), ex (frT g (roots g n)) && tabsB g tf (frT g (roots g n)))
theorem saysY_of {n : Nat} {fa : List Fa} {fn : List DefD} {ts : List Tab} {tf : List Defn} {ex : PySem.W.Frag → Bool} {w : World} {h : Heap} (e : obsY n fa fn ts tf ex h.get? = valX fn ts w) : SaysX fa fn ts tf ex w h (frT h.get? (roots h.get? n)) := by
  have e1 : obsT fa fn ts (frT h.get? (roots h.get? n)) = valT fn ts w := congrArg (fun z : AlX => z.1) e
  have e2 : (ex (frT h.get? (roots h.get? n)) && tabsB h.get? tf (frT h.get? (roots h.get? n))) = true := congrArg (fun z : AlX => z.2) e
  obtain ⟨h1, h2⟩ := ba e2
  have key : ∀ p ∈ tf, PySem.W.codeHdIn (frT h.get? (roots h.get? n)) (cT (frT h.get? (roots h.get? n)) p).1 (cT (frT h.get? (roots h.get? n)) p).2 = true ∧ ∃ o, h.get? (cT (frT h.get? (roots h.get? n)) p).2 = some o ∧ emptyTab o = true := fun p hp => by
    obtain ⟨h3, h4⟩ := ba (List.all_eq_true.mp h2 p hp)
    refine ⟨h3, ?_⟩
    cases q : h.get? (cT (frT h.get? (roots h.get? n)) p).2 with
    | none =>
      rw [q] at h4
      cases h4
    | some o =>
      rw [q] at h4
      exact ⟨o, rfl, h4⟩
  exact ⟨e1, h1, fun p hp => (key p hp).1, fun p hp => by
    obtain ⟨_, o, q, z⟩ := key p hp
    exact frT_none q z, fun p hp => by
    obtain ⟨_, o, q, z⟩ := key p hp
    rw [q, emptyTab_eq z]⟩
def hookY (n : Nat) (fa : List Fa) (fn : List DefD) (ts : List Tab) (tf : List Defn) (ex : PySem.W.Frag → Bool) : PySem.W.Hook where
  α := AlX
  obs := fun s => obsY n fa fn ts tf ex s.heap.get?
  val := fun w => valX fn ts w
  says := fun w h => ∃ K : PySem.W.Frag, K.In h ∧ SaysX fa fn ts tf ex w h K
  of := fun _ _ e => ⟨_, frT_in, saysY_of e⟩
  keeps := fun _ _ _ ⟨K, hK, c⟩ k => ⟨K, PySem.W.Frag.In.keeps hK k, ⟨c.t, c.more, c.hd, c.out, fun p hp => k _ _ (c.empty p hp)⟩⟩
theorem obsY_eq {n : Nat} {fa : List Fa} {fn : List DefD} {ts : List Tab} {tf : List Defn} {ex : PySem.W.Frag → Bool} {g : Addr → Option Obj} {s : Shared} (h : ∀ a, g a = s.heap.get? a) : obsY n fa fn ts tf ex g = (hookY n fa fn ts tf ex).obs s := by
  have e : g = s.heap.get? := funext h
  rw [e] <;> rfl
end Hk
namespace L2.FK
open PySem PySem.Spec PyProof.Rows L2.FL FlT LamX
def dd0 : He.DefD := ⟨("LaneMap", some "__init__"), "__init__", "LaneMap.__init__", C8.fnArgs sInit, C8.fnBody sInit, C8.fnScope sInit, [.adr (He.dflAt ("LaneMap", some "__init__") 0)], []⟩
def dd1 : He.DefD := ⟨("LaneError", some "__init__"), "__init__", "LaneError.__init__", C8.fnArgs sLEI, C8.fnBody sLEI, C8.fnScope sLEI, [], []⟩
def dd2 : He.DefD := ⟨("BadGoal", some "__init__"), "__init__", "BadGoal.__init__", C8.fnArgs s_i_BadGoal, C8.fnBody s_i_BadGoal, C8.fnScope s_i_BadGoal, [], []⟩
def dd3 : He.DefD := ⟨("BadLanes", some "__init__"), "__init__", "BadLanes.__init__", C8.fnArgs s_i_BadLanes, C8.fnBody s_i_BadLanes, C8.fnScope s_i_BadLanes, [], []⟩
def dd4 : He.DefD := ⟨("BadText", some "__init__"), "__init__", "BadText.__init__", C8.fnArgs s_i_BadText, C8.fnBody s_i_BadText, C8.fnScope s_i_BadText, [], []⟩
def dd5 : He.DefD := ⟨("NotBijective", some "__init__"), "__init__", "NotBijective.__init__", C8.fnArgs s_i_NotBijective, C8.fnBody s_i_NotBijective, C8.fnScope s_i_NotBijective, [], []⟩
def dd6 : He.DefD := ⟨("TooWide", some "__init__"), "__init__", "TooWide.__init__", C8.fnArgs s_i_TooWide, C8.fnBody s_i_TooWide, C8.fnScope s_i_TooWide, [], []⟩
def dd7 : He.DefD := ⟨("natural_of", none), "natural_of", "natural_of", C8.fnArgs t_natural_of, C8.fnBody t_natural_of, C8.fnScope t_natural_of, [], []⟩
def dd8 : He.DefD := ⟨("integer_of", none), "integer_of", "integer_of", C8.fnArgs t_integer_of, C8.fnBody t_integer_of, C8.fnScope t_integer_of, [], []⟩
def dd9 : He.DefD := ⟨("place_of", none), "place_of", "place_of", C8.fnArgs t_place_of, C8.fnBody t_place_of, C8.fnScope t_place_of, [], []⟩
def dd10 : He.DefD := ⟨("place_text", none), "place_text", "place_text", C8.fnArgs t_place_text, C8.fnBody t_place_text, C8.fnScope t_place_text, [], []⟩
def dd11 : He.DefD := ⟨("check_lanes", none), "check_lanes", "check_lanes", C8.fnArgs sCheckLanes, C8.fnBody sCheckLanes, C8.fnScope sCheckLanes, [], []⟩
def dd12 : He.DefD := ⟨("check_width", none), "check_width", "check_width", C8.fnArgs sCheckWidth, C8.fnBody sCheckWidth, C8.fnScope sCheckWidth, [], []⟩
def dd13 : He.DefD := ⟨("is_place", none), "is_place", "is_place", C8.fnArgs sIsPlace, C8.fnBody sIsPlace, C8.fnScope sIsPlace, [], []⟩
def dd14 : He.DefD := ⟨("copied_rows", none), "copied_rows", "copied_rows", C8.fnArgs sCopied, C8.fnBody sCopied, C8.fnScope sCopied, [], []⟩
def dd15 : He.DefD := ⟨("check_images", none), "check_images", "check_images", C8.fnArgs sImages, C8.fnBody sImages, C8.fnScope sImages, [], []⟩
def dd16 : He.DefD := ⟨("check_bijective", none), "check_bijective", "check_bijective", C8.fnArgs sBijective, C8.fnBody sBijective, C8.fnScope sBijective, [], []⟩
def dd17 : He.DefD := ⟨("first_wrong", none), "first_wrong", "first_wrong", C8.fnArgs sWrong, C8.fnBody sWrong, C8.fnScope sWrong, [], []⟩
def dd18 : He.DefD := ⟨("trimmed", none), "trimmed", "trimmed", C8.fnArgs sTrimmed, C8.fnBody sTrimmed, C8.fnScope sTrimmed, [], []⟩
def dd19 : He.DefD := ⟨("part_text", none), "part_text", "part_text", C8.fnArgs t_part_text, C8.fnBody t_part_text, C8.fnScope t_part_text, [], []⟩
def dd20 : He.DefD := ⟨("format_map", none), "format_map", "format_map", C8.fnArgs t_format_map, C8.fnBody t_format_map, C8.fnScope t_format_map, [], []⟩
def dd21 : He.DefD := ⟨("read_part", none), "read_part", "read_part", C8.fnArgs t_read_part, C8.fnBody t_read_part, C8.fnScope t_read_part, [], []⟩
def dd22 : He.DefD := ⟨("read_parts", none), "read_parts", "read_parts", C8.fnArgs t_read_parts, C8.fnBody t_read_parts, C8.fnScope t_read_parts, [], []⟩
def dd23 : He.DefD := ⟨("parse_map", none), "parse_map", "parse_map", C8.fnArgs t_parse_map, C8.fnBody t_parse_map, C8.fnScope t_parse_map, [], []⟩
def dd24 : He.DefD := ⟨("_law_bag", none), "_law_bag", "_law_bag", C8.fnArgs sBag, C8.fnBody sBag, C8.fnScope sBag, [], []⟩
def dd25 : He.DefD := ⟨("_law_pull", none), "_law_pull", "_law_pull", C8.fnArgs sPull, C8.fnBody sPull, C8.fnScope sPull, [], []⟩
def dd26 : He.DefD := ⟨("_law_of", none), "_law_of", "_law_of", C8.fnArgs sOf, C8.fnBody sOf, C8.fnScope sOf, [], []⟩
def dd27 : He.DefD := ⟨("_law_drifts", none), "_law_drifts", "_law_drifts", C8.fnArgs sDrifts, C8.fnBody sDrifts, C8.fnScope sDrifts, [], []⟩
def dd28 : He.DefD := ⟨("_law_deal", none), "_law_deal", "_law_deal", C8.fnArgs sDeal, C8.fnBody sDeal, C8.fnScope sDeal, [], []⟩
def dd29 : He.DefD := ⟨("_law_any", none), "_law_any", "_law_any", C8.fnArgs sAny, C8.fnBody sAny, C8.fnScope sAny, [], []⟩
def dd30 : He.DefD := ⟨("_law_least", none), "_law_least", "_law_least", C8.fnArgs sLeast, C8.fnBody sLeast, C8.fnScope sLeast, [], []⟩
def dd31 : He.DefD := ⟨("_law_is_map", none), "_law_is_map", "_law_is_map", C8.fnArgs sIsMap, C8.fnBody sIsMap, C8.fnScope sIsMap, [], []⟩
def dd32 : He.DefD := ⟨("_law_like", none), "_law_like", "_law_like", C8.fnArgs sLike, C8.fnBody sLike, C8.fnScope sLike, [], []⟩
def dd33 : He.DefD := ⟨("_law_field", none), "_law_field", "_law_field", C8.fnArgs sField, C8.fnBody sField, C8.fnScope sField, [], []⟩
def dd34 : He.DefD := ⟨("_law_told", none), "_law_told", "_law_told", C8.fnArgs sTold, C8.fnBody sTold, C8.fnScope sTold, [], []⟩
def dd35 : He.DefD := ⟨("_law_map_text", none), "_law_map_text", "_law_map_text", C8.fnArgs t__law_map_text, C8.fnBody t__law_map_text, C8.fnScope t__law_map_text, [], []⟩
def dd36 : He.DefD := ⟨("_law_number_in", none), "_law_number_in", "_law_number_in", C8.fnArgs t__law_number_in, C8.fnBody t__law_number_in, C8.fnScope t__law_number_in, [], []⟩
def dd37 : He.DefD := ⟨("_law_place_in", none), "_law_place_in", "_law_place_in", C8.fnArgs t__law_place_in, C8.fnBody t__law_place_in, C8.fnScope t__law_place_in, [], []⟩
def dd38 : He.DefD := ⟨("_law_parts_in", none), "_law_parts_in", "_law_parts_in", C8.fnArgs t__law_parts_in, C8.fnBody t__law_parts_in, C8.fnScope t__law_parts_in, [], []⟩
def dd39 : He.DefD := ⟨("_law_is_model", none), "_law_is_model", "_law_is_model", C8.fnArgs t__law_is_model, C8.fnBody t__law_is_model, C8.fnScope t__law_is_model, [], []⟩
def dd40 : He.DefD := ⟨("_law_bent", none), "_law_bent", "_law_bent", C8.fnArgs t__law_bent, C8.fnBody t__law_bent, C8.fnScope t__law_bent, [], []⟩
def dd41 : He.DefD := ⟨("LaneMap", some "__len__"), "__len__", "LaneMap.__len__", C8.fnArgs (inClass sMap 8), C8.fnBody (inClass sMap 8), C8.fnScope (inClass sMap 8), [], []⟩
def dd42 : He.DefD := ⟨("LaneMap", some "__str__"), "__str__", "LaneMap.__str__", C8.fnArgs (inClass sMap 10), C8.fnBody (inClass sMap 10), C8.fnScope (inClass sMap 10), [], []⟩
def dd43 : He.DefD := ⟨("LaneMap", some "drifts"), "drifts", "LaneMap.drifts", C8.fnArgs (inClass sMap 2), C8.fnBody (inClass sMap 2), C8.fnScope (inClass sMap 2), [], []⟩
def dd44 : He.DefD := ⟨("LaneMap", some "goals"), "goals", "LaneMap.goals", C8.fnArgs (inClass sMap 4), C8.fnBody (inClass sMap 4), C8.fnScope (inClass sMap 4), [], []⟩
def dd45 : He.DefD := ⟨("law", none), "law", "law", C8.fnArgs sLaw, C8.fnBody sLaw, C8.fnScope sLaw, [], []⟩
def hfn : List He.DefD := [dd0, dd1, dd2, dd3, dd4, dd5, dd6, dd7, dd8, dd9, dd10, dd11, dd12, dd13, dd14, dd15, dd16, dd17, dd18, dd19, dd20, dd21, dd22, dd23, dd24, dd25, dd26, dd27, dd28, dd29, dd30, dd31, dd32, dd33, dd34, dd35, dd36, dd37, dd38, dd39, dd40, dd41, dd42, dd43, dd44, dd45]
def hfacts : List He.Fa := [.free "len", .free "sum", .free "range", .free "enumerate", .free "max", .free "min", .free "list", .free "tuple", .free "isinstance", .free "all", .free "zip", .free "int", .free "bool", .free "str", .int "MOST_LANES" 6, .int "MOST_GOALS" 2000, .cls "LaneMap", .noat "LaneMap" "shifts", .noat "LaneMap" "rows", .noat "LaneMap" "images", .noat "LaneMap" "origins", .glo "LaneMap", .mkr "LaneMap", .glo "LaneError", .glo "Missing", .glo "NothingLeft", .int "MOST_WRITTEN" M30, .exm "BadLanes" "LaneError" true, .exm "TooWide" "LaneError" true, .exm "BadGoal" "LaneError" true, .exm "NotBijective" "LaneError" true, .glo "BadGoal", .noat "BadGoal" "word", .noat "BadGoal" "place", .noat "BadGoal" "most", .noat "BadGoal" "lane", .noat "BadGoal" "at", .noat "BadGoal" "name", .noat "BadGoal" "spot", .noat "BadGoal" "degree", .noat "BadGoal" "by", .noat "BadGoal" "count", .noat "BadGoal" "row", .glo "BadLanes", .noat "BadLanes" "word", .noat "BadLanes" "place", .noat "BadLanes" "most", .noat "BadLanes" "lane", .noat "BadLanes" "at", .noat "BadLanes" "name", .noat "BadLanes" "spot", .noat "BadLanes" "degree", .noat "BadLanes" "by", .noat "BadLanes" "count", .noat "BadLanes" "row", .glo "BadText", .noat "BadText" "word", .noat "BadText" "place", .noat "BadText" "most", .noat "BadText" "lane", .noat "BadText" "at", .noat "BadText" "name", .noat "BadText" "spot", .noat "BadText" "degree", .noat "BadText" "by", .noat "BadText" "count", .noat "BadText" "row", .glo "NotBijective", .noat "NotBijective" "word", .noat "NotBijective" "place", .noat "NotBijective" "most", .noat "NotBijective" "lane", .noat "NotBijective" "at", .noat "NotBijective" "name", .noat "NotBijective" "spot", .noat "NotBijective" "degree", .noat "NotBijective" "by", .noat "NotBijective" "count", .noat "NotBijective" "row", .glo "TooWide", .noat "TooWide" "word", .noat "TooWide" "place", .noat "TooWide" "most", .noat "TooWide" "lane", .noat "TooWide" "at", .noat "TooWide" "name", .noat "TooWide" "spot", .noat "TooWide" "degree", .noat "TooWide" "by", .noat "TooWide" "count", .noat "TooWide" "row", .glo "natural_of", .glo "integer_of", .glo "place_of", .glo "place_text", .glo "check_lanes", .glo "check_width", .glo "is_place", .glo "copied_rows", .glo "check_images", .glo "check_bijective", .glo "first_wrong", .glo "trimmed", .glo "part_text", .glo "format_map", .glo "read_part", .glo "read_parts", .glo "parse_map", .glo "_law_bag", .glo "_law_pull", .glo "_law_of", .glo "_law_drifts", .glo "_law_deal", .glo "_law_any", .glo "_law_least", .glo "_law_is_map", .glo "_law_like", .glo "_law_field", .glo "_law_told", .glo "_law_map_text", .glo "_law_number_in", .glo "_law_place_in", .glo "_law_parts_in", .glo "_law_is_model", .glo "_law_bent", .meth "LaneMap" "__len__", .meth "LaneMap" "__str__", .meth "LaneMap" "drifts", .meth "LaneMap" "goals", .glo "law"]
def htf : List He.Defn := [("law", none)]
def exs (K : PySem.W.Frag) : List Bool := [Hk.eTupB K (He.dflAt ("LaneMap", some "__init__") 0 K),
  Hk.cfnB K (He.ga K "LaneError") "__init__" (He.ma K (He.ga K "LaneError") "__init__"),
  PySem.W.readsIn K (He.ga K "LaneError") (.type "type"),
  decide (PySem.W.specialIn K (.ref (He.ga K "LaneError")) "__getattribute__" = some (some (.builtin "type.__getattribute__"))),
  decide (PySem.W.findIn K (.ref (He.ga K "LaneMap")) "__class__" = some (some (.builtin "object.__class__"))),
  decide (PySem.W.specialIn K (.builtin "object.__class__") "__get__" = some (some (.builtin "getset_descriptor.__get__"))),
  decide (PySem.W.takesIn K (.builtin "object.__class__") = some true),
  decide (PySem.W.mroIn K (He.ga K "LaneMap") (.type "object") = some true),
  Hk.oexB K (He.ga K "BadGoal"),
  decide (PySem.W.findIn K (.ref (He.ga K "BadGoal")) "__setattr__" = some (some (.builtin "object.__setattr__"))),
  decide (PySem.W.subIn K (.ref (He.ga K "BadGoal")) (.type "BaseException") = some true),
  decide (PySem.W.typeIn K (.ref (He.ga K "BadGoal")) = some (.type "type")),
  PySem.W.keepIn K (.ref (He.ga K "BadGoal")),
  xfB K (He.ga K "BadGoal"),
  decide (PySem.W.exmAny K (.ref (He.ga K "BadGoal")) [.ref (He.ga K "LaneError"), .ref (He.ga K "Missing"), .ref (He.ga K "NothingLeft")] = some true),
  decide (PySem.W.findIn K (.ref (He.ga K "BadGoal")) "__init__" = some (some (.ref (He.ma K (He.ga K "BadGoal") "__init__")))),
  decide (PySem.W.typeIn K (.ref (He.ma K (He.ga K "BadGoal") "__init__")) = some (.type "function")),
  Hk.oexB K (He.ga K "BadLanes"),
  decide (PySem.W.findIn K (.ref (He.ga K "BadLanes")) "__setattr__" = some (some (.builtin "object.__setattr__"))),
  decide (PySem.W.subIn K (.ref (He.ga K "BadLanes")) (.type "BaseException") = some true),
  decide (PySem.W.typeIn K (.ref (He.ga K "BadLanes")) = some (.type "type")),
  PySem.W.keepIn K (.ref (He.ga K "BadLanes")),
  xfB K (He.ga K "BadLanes"),
  decide (PySem.W.exmAny K (.ref (He.ga K "BadLanes")) [.ref (He.ga K "LaneError"), .ref (He.ga K "Missing"), .ref (He.ga K "NothingLeft")] = some true),
  decide (PySem.W.findIn K (.ref (He.ga K "BadLanes")) "__init__" = some (some (.ref (He.ma K (He.ga K "BadLanes") "__init__")))),
  decide (PySem.W.typeIn K (.ref (He.ma K (He.ga K "BadLanes") "__init__")) = some (.type "function")),
  Hk.oexB K (He.ga K "BadText"),
  decide (PySem.W.findIn K (.ref (He.ga K "BadText")) "__setattr__" = some (some (.builtin "object.__setattr__"))),
  decide (PySem.W.subIn K (.ref (He.ga K "BadText")) (.type "BaseException") = some true),
  decide (PySem.W.typeIn K (.ref (He.ga K "BadText")) = some (.type "type")),
  PySem.W.keepIn K (.ref (He.ga K "BadText")),
  xfB K (He.ga K "BadText"),
  decide (PySem.W.exmAny K (.ref (He.ga K "BadText")) [.ref (He.ga K "LaneError"), .ref (He.ga K "Missing"), .ref (He.ga K "NothingLeft")] = some true),
  decide (PySem.W.findIn K (.ref (He.ga K "BadText")) "__init__" = some (some (.ref (He.ma K (He.ga K "BadText") "__init__")))),
  decide (PySem.W.typeIn K (.ref (He.ma K (He.ga K "BadText") "__init__")) = some (.type "function")),
  Hk.oexB K (He.ga K "NotBijective"),
  decide (PySem.W.findIn K (.ref (He.ga K "NotBijective")) "__setattr__" = some (some (.builtin "object.__setattr__"))),
  decide (PySem.W.subIn K (.ref (He.ga K "NotBijective")) (.type "BaseException") = some true),
  decide (PySem.W.typeIn K (.ref (He.ga K "NotBijective")) = some (.type "type")),
  PySem.W.keepIn K (.ref (He.ga K "NotBijective")),
  xfB K (He.ga K "NotBijective"),
  decide (PySem.W.exmAny K (.ref (He.ga K "NotBijective")) [.ref (He.ga K "LaneError"), .ref (He.ga K "Missing"), .ref (He.ga K "NothingLeft")] = some true),
  decide (PySem.W.findIn K (.ref (He.ga K "NotBijective")) "__init__" = some (some (.ref (He.ma K (He.ga K "NotBijective") "__init__")))),
  decide (PySem.W.typeIn K (.ref (He.ma K (He.ga K "NotBijective") "__init__")) = some (.type "function")),
  Hk.oexB K (He.ga K "TooWide"),
  decide (PySem.W.findIn K (.ref (He.ga K "TooWide")) "__setattr__" = some (some (.builtin "object.__setattr__"))),
  decide (PySem.W.subIn K (.ref (He.ga K "TooWide")) (.type "BaseException") = some true),
  decide (PySem.W.typeIn K (.ref (He.ga K "TooWide")) = some (.type "type")),
  PySem.W.keepIn K (.ref (He.ga K "TooWide")),
  xfB K (He.ga K "TooWide"),
  decide (PySem.W.exmAny K (.ref (He.ga K "TooWide")) [.ref (He.ga K "LaneError"), .ref (He.ga K "Missing"), .ref (He.ga K "NothingLeft")] = some true),
  decide (PySem.W.findIn K (.ref (He.ga K "TooWide")) "__init__" = some (some (.ref (He.ma K (He.ga K "TooWide") "__init__")))),
  decide (PySem.W.typeIn K (.ref (He.ma K (He.ga K "TooWide") "__init__")) = some (.type "function"))]
def hex (K : PySem.W.Frag) : Bool := (exs K).all id
abbrev RR : PySem.W.OpenRow := PySem.W.OpenLaw.row PySem.Challenge.rw_farlanes_k41_whole_texts_are_maps_or_non
abbrev qv : Program := PySem.W.view RR.prog [52]
def names0 : List PySem.Str := ["_wall", "LaneError", "BadLanes", "BadGoal", "NotBijective", "TooWide", "BadText", "Missing", "NothingLeft", "natural_of", "integer_of", "place_of", "place_text", "MOST_LANES", "MOST_GOALS", "check_lanes", "check_width", "is_place", "copied_rows", "check_images", "check_bijective", "first_wrong", "trimmed", "part_text", "LaneMap", "MOST_WRITTEN", "format_map", "read_part", "read_parts", "parse_map"]
def names1 : List PySem.Str := ["_law_bag", "_law_pull", "_law_of", "_law_drifts", "_law_deal", "_law_any", "_law_least", "_law_is_map", "_law_like", "_law_field", "_law_told", "_law_map_text", "_law_number_in", "_law_place_in", "_law_parts_in", "_law_is_model", "_law_bent"]
def hnames : List PySem.Str := names0 ++ names1
abbrev hk : PySem.W.Hook := Hk.hookY 5 hfacts hfn [] htf hex
def hob (s : PySem.W.SharedT) : He.AlX := Hk.obsY 5 hfacts hfn [] htf hex (HandSHeadRun.getT s)
theorem hob_eq (s : PySem.W.SharedT) : hob s = hk.obs s.abs := Hk.obsY_eq (HandSHeadRun.getT_eq s)
end L2.FK
namespace L2.FK
open PySem PySem.Spec PyProof.Rows L2.FL FlT LamX
set_option maxHeartbeats 0 in
theorem hrun (w : World) : HandSHeadRun.RunEq RR qv hk hob 60000 hnames w := by
  intro os
  kernel_rfl
section
variable {w : World} {K : PySem.W.Frag} {h : Heap} {mg : Str → Option Value}
theorem h_bl (X : K.In h) (G : h.Ns mainGlobals mg) (c : He.SaysX hfacts hfn [] htf hex w h K) : Bl mg := by
  exact ⟨He.free_ok X G (c.t.d.fact 0 (f := .free "len") rfl), He.free_ok X G (c.t.d.fact 1 (f := .free "sum") rfl), He.free_ok X G (c.t.d.fact 2 (f := .free "range") rfl), He.free_ok X G (c.t.d.fact 3 (f := .free "enumerate") rfl), He.free_ok X G (c.t.d.fact 4 (f := .free "max") rfl), He.free_ok X G (c.t.d.fact 5 (f := .free "min") rfl), He.free_ok X G (c.t.d.fact 6 (f := .free "list") rfl), He.free_ok X G (c.t.d.fact 7 (f := .free "tuple") rfl), He.free_ok X G (c.t.d.fact 8 (f := .free "isinstance") rfl), He.free_ok X G (c.t.d.fact 9 (f := .free "all") rfl), He.free_ok X G (c.t.d.fact 10 (f := .free "zip") rfl), He.free_ok X G (c.t.d.fact 11 (f := .free "int") rfl), He.free_ok X G (c.t.d.fact 12 (f := .free "bool") rfl), He.free_ok X G (c.t.d.fact 13 (f := .free "str") rfl), He.int_ok X G (c.t.d.fact 14 (f := .int "MOST_LANES" 6) rfl), He.int_ok X G (c.t.d.fact 15 (f := .int "MOST_GOALS" 2000) rfl)⟩
theorem h_tx (X : K.In h) (G : h.Ns mainGlobals mg) (c : He.SaysX hfacts hfn [] htf hex w h K) : Tx K mg (He.ga K "LaneMap") := by
  exact ⟨He.cls_ok (c.t.d.fact 16 (f := .cls "LaneMap") rfl), He.noat_ok (c.t.d.fact 17 (f := .noat "LaneMap" "shifts") rfl), He.noat_ok (c.t.d.fact 18 (f := .noat "LaneMap" "rows") rfl), He.noat_ok (c.t.d.fact 19 (f := .noat "LaneMap" "images") rfl), He.noat_ok (c.t.d.fact 20 (f := .noat "LaneMap" "origins") rfl), (He.glo_ok X G (c.t.d.fact 21 (f := .glo "LaneMap") rfl))⟩
theorem h_ml (X : K.In h) (G : h.Ns mainGlobals mg) (c : He.SaysX hfacts hfn [] htf hex w h K) : HasL K (He.ga K "LaneMap") := by
  obtain ⟨fd, F⟩ := (c.t.d.def_ 0 (d := dd0) rfl)
  obtain ⟨oc, od, T, kV, doc, pm, an, cdv, ct, osl, oT, oT2, n, oT4, l, cd, lT⟩ := Hk.lkD_of F
  obtain ⟨o2, m, o4, le⟩ := Hk.eTupB_ok (Hk.ex_at (exs := exs) c.more 0 rfl)
  have M := He.mkr_ok (c.t.d.fact 22 (f := .mkr "LaneMap") rfl)
  exact hasL_mk M.makes M.init M.fn M.kp l cd lT le
theorem h_xa (X : K.In h) (G : h.Ns mainGlobals mg) (c : He.SaysX hfacts hfn [] htf hex w h K) : XAll K mg (He.ga K "LaneError") (He.ga K "Missing") (He.ga K "NothingLeft") := by
  obtain ⟨fd, F⟩ := (c.t.d.def_ 1 (d := dd1) rfl)
  obtain ⟨oc, od, kV, doc, pm, an, cdv, ct, osl, l, cd, kp⟩ := Hk.lk_of F
  exact ⟨(He.glo_ok X G (c.t.d.fact 23 (f := .glo "LaneError") rfl)), (He.glo_ok X G (c.t.d.fact 24 (f := .glo "Missing") rfl)), (He.glo_ok X G (c.t.d.fact 25 (f := .glo "NothingLeft") rfl)), le_mk (Hk.cfnB_ok (Hk.ex_at (exs := exs) c.more 1 rfl)) kp (Hk.ex_at (exs := exs) c.more 2 rfl) (of_decide_eq_true (Hk.ex_at (exs := exs) c.more 3 rfl)) (fun_mk l cd (fun _ _ _ _ _ _ us hl => match us, hl with | [_], _ => rfl))⟩
theorem h_ic (X : K.In h) (G : h.Ns mainGlobals mg) (c : He.SaysX hfacts hfn [] htf hex w h K) : C8.InsC K (He.ga K "LaneMap") := by
  exact ⟨He.cls_ok (c.t.d.fact 16 (f := .cls "LaneMap") rfl), (of_decide_eq_true (Hk.ex_at (exs := exs) c.more 4 rfl)), (of_decide_eq_true (Hk.ex_at (exs := exs) c.more 5 rfl)), (of_decide_eq_true (Hk.ex_at (exs := exs) c.more 6 rfl)), (of_decide_eq_true (Hk.ex_at (exs := exs) c.more 7 rfl)), kit_self _ _⟩
theorem h_mw (X : K.In h) (G : h.Ns mainGlobals mg) (c : He.SaysX hfacts hfn [] htf hex w h K) : ∃ t, mg "MOST_WRITTEN" = some (.int M30 t) := by
  exact He.int_ok X G (c.t.d.fact 26 (f := .int "MOST_WRITTEN" M30) rfl)
theorem h_sbBadLanes (X : K.In h) (G : h.Ns mainGlobals mg) (c : He.SaysX hfacts hfn [] htf hex w h K) : PySem.W.exmOne K (.ref (He.ga K "BadLanes")) (.ref (He.ga K "LaneError")) = some true := by
  exact He.exm_ok (c.t.d.fact 27 (f := .exm "BadLanes" "LaneError" true) rfl)
theorem h_sbTooWide (X : K.In h) (G : h.Ns mainGlobals mg) (c : He.SaysX hfacts hfn [] htf hex w h K) : PySem.W.exmOne K (.ref (He.ga K "TooWide")) (.ref (He.ga K "LaneError")) = some true := by
  exact He.exm_ok (c.t.d.fact 28 (f := .exm "TooWide" "LaneError" true) rfl)
theorem h_sbBadGoal (X : K.In h) (G : h.Ns mainGlobals mg) (c : He.SaysX hfacts hfn [] htf hex w h K) : PySem.W.exmOne K (.ref (He.ga K "BadGoal")) (.ref (He.ga K "LaneError")) = some true := by
  exact He.exm_ok (c.t.d.fact 29 (f := .exm "BadGoal" "LaneError" true) rfl)
theorem h_sbNotBijective (X : K.In h) (G : h.Ns mainGlobals mg) (c : He.SaysX hfacts hfn [] htf hex w h K) : PySem.W.exmOne K (.ref (He.ga K "NotBijective")) (.ref (He.ga K "LaneError")) = some true := by
  exact He.exm_ok (c.t.d.fact 30 (f := .exm "NotBijective" "LaneError" true) rfl)
theorem h_xBadGoal (X : K.In h) (G : h.Ns mainGlobals mg) (c : He.SaysX hfacts hfn [] htf hex w h K) : XOne K mg "BadGoal" "BadGoal.__init__" s_i_BadGoal ["self", "place"] (He.ga K "BadGoal") (He.ga K "LaneError") (He.ga K "Missing") (He.ga K "NothingLeft") := by
  obtain ⟨fd, F⟩ := (c.t.d.def_ 2 (d := dd2) rfl)
  obtain ⟨oc, od, kV, doc, pm, an, cdv, ct, osl, l, cd, kp⟩ := Hk.lk_of F
  exact ⟨(He.glo_ok X G (c.t.d.fact 31 (f := .glo "BadGoal") rfl)), ⟨⟨Hk.oexB_ok (Hk.ex_at (exs := exs) c.more 8 rfl), (of_decide_eq_true (Hk.ex_at (exs := exs) c.more 9 rfl)), (of_decide_eq_true (Hk.ex_at (exs := exs) c.more 10 rfl)), (of_decide_eq_true (Hk.ex_at (exs := exs) c.more 11 rfl)), (Hk.ex_at (exs := exs) c.more 12 rfl)⟩, no_mk (He.noat_ok (c.t.d.fact 32 (f := .noat "BadGoal" "word") rfl)) (He.noat_ok (c.t.d.fact 33 (f := .noat "BadGoal" "place") rfl)) (He.noat_ok (c.t.d.fact 34 (f := .noat "BadGoal" "most") rfl)) (He.noat_ok (c.t.d.fact 35 (f := .noat "BadGoal" "lane") rfl)) (He.noat_ok (c.t.d.fact 36 (f := .noat "BadGoal" "at") rfl)) (He.noat_ok (c.t.d.fact 37 (f := .noat "BadGoal" "name") rfl)) (He.noat_ok (c.t.d.fact 38 (f := .noat "BadGoal" "spot") rfl)) (He.noat_ok (c.t.d.fact 39 (f := .noat "BadGoal" "degree") rfl)) (He.noat_ok (c.t.d.fact 40 (f := .noat "BadGoal" "by") rfl)) (He.noat_ok (c.t.d.fact 41 (f := .noat "BadGoal" "count") rfl)) (He.noat_ok (c.t.d.fact 42 (f := .noat "BadGoal" "row") rfl))⟩, xfB_ok (Hk.ex_at (exs := exs) c.more 13 rfl), (of_decide_eq_true (Hk.ex_at (exs := exs) c.more 14 rfl)), xi_mk (of_decide_eq_true (Hk.ex_at (exs := exs) c.more 15 rfl)) (of_decide_eq_true (Hk.ex_at (exs := exs) c.more 16 rfl)) (fun_mk l cd (fun _ _ _ _ _ _ us hl => match us, hl with | [_, _], _ => rfl))⟩
theorem h_xBadLanes (X : K.In h) (G : h.Ns mainGlobals mg) (c : He.SaysX hfacts hfn [] htf hex w h K) : XOne K mg "BadLanes" "BadLanes.__init__" s_i_BadLanes ["self"] (He.ga K "BadLanes") (He.ga K "LaneError") (He.ga K "Missing") (He.ga K "NothingLeft") := by
  obtain ⟨fd, F⟩ := (c.t.d.def_ 3 (d := dd3) rfl)
  obtain ⟨oc, od, kV, doc, pm, an, cdv, ct, osl, l, cd, kp⟩ := Hk.lk_of F
  exact ⟨(He.glo_ok X G (c.t.d.fact 43 (f := .glo "BadLanes") rfl)), ⟨⟨Hk.oexB_ok (Hk.ex_at (exs := exs) c.more 17 rfl), (of_decide_eq_true (Hk.ex_at (exs := exs) c.more 18 rfl)), (of_decide_eq_true (Hk.ex_at (exs := exs) c.more 19 rfl)), (of_decide_eq_true (Hk.ex_at (exs := exs) c.more 20 rfl)), (Hk.ex_at (exs := exs) c.more 21 rfl)⟩, no_mk (He.noat_ok (c.t.d.fact 44 (f := .noat "BadLanes" "word") rfl)) (He.noat_ok (c.t.d.fact 45 (f := .noat "BadLanes" "place") rfl)) (He.noat_ok (c.t.d.fact 46 (f := .noat "BadLanes" "most") rfl)) (He.noat_ok (c.t.d.fact 47 (f := .noat "BadLanes" "lane") rfl)) (He.noat_ok (c.t.d.fact 48 (f := .noat "BadLanes" "at") rfl)) (He.noat_ok (c.t.d.fact 49 (f := .noat "BadLanes" "name") rfl)) (He.noat_ok (c.t.d.fact 50 (f := .noat "BadLanes" "spot") rfl)) (He.noat_ok (c.t.d.fact 51 (f := .noat "BadLanes" "degree") rfl)) (He.noat_ok (c.t.d.fact 52 (f := .noat "BadLanes" "by") rfl)) (He.noat_ok (c.t.d.fact 53 (f := .noat "BadLanes" "count") rfl)) (He.noat_ok (c.t.d.fact 54 (f := .noat "BadLanes" "row") rfl))⟩, xfB_ok (Hk.ex_at (exs := exs) c.more 22 rfl), (of_decide_eq_true (Hk.ex_at (exs := exs) c.more 23 rfl)), xi_mk (of_decide_eq_true (Hk.ex_at (exs := exs) c.more 24 rfl)) (of_decide_eq_true (Hk.ex_at (exs := exs) c.more 25 rfl)) (fun_mk l cd (fun _ _ _ _ _ _ us hl => match us, hl with | [_], _ => rfl))⟩
theorem h_xBadText (X : K.In h) (G : h.Ns mainGlobals mg) (c : He.SaysX hfacts hfn [] htf hex w h K) : XOne K mg "BadText" "BadText.__init__" s_i_BadText ["self", "at"] (He.ga K "BadText") (He.ga K "LaneError") (He.ga K "Missing") (He.ga K "NothingLeft") := by
  obtain ⟨fd, F⟩ := (c.t.d.def_ 4 (d := dd4) rfl)
  obtain ⟨oc, od, kV, doc, pm, an, cdv, ct, osl, l, cd, kp⟩ := Hk.lk_of F
  exact ⟨(He.glo_ok X G (c.t.d.fact 55 (f := .glo "BadText") rfl)), ⟨⟨Hk.oexB_ok (Hk.ex_at (exs := exs) c.more 26 rfl), (of_decide_eq_true (Hk.ex_at (exs := exs) c.more 27 rfl)), (of_decide_eq_true (Hk.ex_at (exs := exs) c.more 28 rfl)), (of_decide_eq_true (Hk.ex_at (exs := exs) c.more 29 rfl)), (Hk.ex_at (exs := exs) c.more 30 rfl)⟩, no_mk (He.noat_ok (c.t.d.fact 56 (f := .noat "BadText" "word") rfl)) (He.noat_ok (c.t.d.fact 57 (f := .noat "BadText" "place") rfl)) (He.noat_ok (c.t.d.fact 58 (f := .noat "BadText" "most") rfl)) (He.noat_ok (c.t.d.fact 59 (f := .noat "BadText" "lane") rfl)) (He.noat_ok (c.t.d.fact 60 (f := .noat "BadText" "at") rfl)) (He.noat_ok (c.t.d.fact 61 (f := .noat "BadText" "name") rfl)) (He.noat_ok (c.t.d.fact 62 (f := .noat "BadText" "spot") rfl)) (He.noat_ok (c.t.d.fact 63 (f := .noat "BadText" "degree") rfl)) (He.noat_ok (c.t.d.fact 64 (f := .noat "BadText" "by") rfl)) (He.noat_ok (c.t.d.fact 65 (f := .noat "BadText" "count") rfl)) (He.noat_ok (c.t.d.fact 66 (f := .noat "BadText" "row") rfl))⟩, xfB_ok (Hk.ex_at (exs := exs) c.more 31 rfl), (of_decide_eq_true (Hk.ex_at (exs := exs) c.more 32 rfl)), xi_mk (of_decide_eq_true (Hk.ex_at (exs := exs) c.more 33 rfl)) (of_decide_eq_true (Hk.ex_at (exs := exs) c.more 34 rfl)) (fun_mk l cd (fun _ _ _ _ _ _ us hl => match us, hl with | [_, _], _ => rfl))⟩
theorem h_xNotBijective (X : K.In h) (G : h.Ns mainGlobals mg) (c : He.SaysX hfacts hfn [] htf hex w h K) : XOne K mg "NotBijective" "NotBijective.__init__" s_i_NotBijective ["self", "place"] (He.ga K "NotBijective") (He.ga K "LaneError") (He.ga K "Missing") (He.ga K "NothingLeft") := by
  obtain ⟨fd, F⟩ := (c.t.d.def_ 5 (d := dd5) rfl)
  obtain ⟨oc, od, kV, doc, pm, an, cdv, ct, osl, l, cd, kp⟩ := Hk.lk_of F
  exact ⟨(He.glo_ok X G (c.t.d.fact 67 (f := .glo "NotBijective") rfl)), ⟨⟨Hk.oexB_ok (Hk.ex_at (exs := exs) c.more 35 rfl), (of_decide_eq_true (Hk.ex_at (exs := exs) c.more 36 rfl)), (of_decide_eq_true (Hk.ex_at (exs := exs) c.more 37 rfl)), (of_decide_eq_true (Hk.ex_at (exs := exs) c.more 38 rfl)), (Hk.ex_at (exs := exs) c.more 39 rfl)⟩, no_mk (He.noat_ok (c.t.d.fact 68 (f := .noat "NotBijective" "word") rfl)) (He.noat_ok (c.t.d.fact 69 (f := .noat "NotBijective" "place") rfl)) (He.noat_ok (c.t.d.fact 70 (f := .noat "NotBijective" "most") rfl)) (He.noat_ok (c.t.d.fact 71 (f := .noat "NotBijective" "lane") rfl)) (He.noat_ok (c.t.d.fact 72 (f := .noat "NotBijective" "at") rfl)) (He.noat_ok (c.t.d.fact 73 (f := .noat "NotBijective" "name") rfl)) (He.noat_ok (c.t.d.fact 74 (f := .noat "NotBijective" "spot") rfl)) (He.noat_ok (c.t.d.fact 75 (f := .noat "NotBijective" "degree") rfl)) (He.noat_ok (c.t.d.fact 76 (f := .noat "NotBijective" "by") rfl)) (He.noat_ok (c.t.d.fact 77 (f := .noat "NotBijective" "count") rfl)) (He.noat_ok (c.t.d.fact 78 (f := .noat "NotBijective" "row") rfl))⟩, xfB_ok (Hk.ex_at (exs := exs) c.more 40 rfl), (of_decide_eq_true (Hk.ex_at (exs := exs) c.more 41 rfl)), xi_mk (of_decide_eq_true (Hk.ex_at (exs := exs) c.more 42 rfl)) (of_decide_eq_true (Hk.ex_at (exs := exs) c.more 43 rfl)) (fun_mk l cd (fun _ _ _ _ _ _ us hl => match us, hl with | [_, _], _ => rfl))⟩
theorem h_xTooWide (X : K.In h) (G : h.Ns mainGlobals mg) (c : He.SaysX hfacts hfn [] htf hex w h K) : XOne K mg "TooWide" "TooWide.__init__" s_i_TooWide ["self", "most"] (He.ga K "TooWide") (He.ga K "LaneError") (He.ga K "Missing") (He.ga K "NothingLeft") := by
  obtain ⟨fd, F⟩ := (c.t.d.def_ 6 (d := dd6) rfl)
  obtain ⟨oc, od, kV, doc, pm, an, cdv, ct, osl, l, cd, kp⟩ := Hk.lk_of F
  exact ⟨(He.glo_ok X G (c.t.d.fact 79 (f := .glo "TooWide") rfl)), ⟨⟨Hk.oexB_ok (Hk.ex_at (exs := exs) c.more 44 rfl), (of_decide_eq_true (Hk.ex_at (exs := exs) c.more 45 rfl)), (of_decide_eq_true (Hk.ex_at (exs := exs) c.more 46 rfl)), (of_decide_eq_true (Hk.ex_at (exs := exs) c.more 47 rfl)), (Hk.ex_at (exs := exs) c.more 48 rfl)⟩, no_mk (He.noat_ok (c.t.d.fact 80 (f := .noat "TooWide" "word") rfl)) (He.noat_ok (c.t.d.fact 81 (f := .noat "TooWide" "place") rfl)) (He.noat_ok (c.t.d.fact 82 (f := .noat "TooWide" "most") rfl)) (He.noat_ok (c.t.d.fact 83 (f := .noat "TooWide" "lane") rfl)) (He.noat_ok (c.t.d.fact 84 (f := .noat "TooWide" "at") rfl)) (He.noat_ok (c.t.d.fact 85 (f := .noat "TooWide" "name") rfl)) (He.noat_ok (c.t.d.fact 86 (f := .noat "TooWide" "spot") rfl)) (He.noat_ok (c.t.d.fact 87 (f := .noat "TooWide" "degree") rfl)) (He.noat_ok (c.t.d.fact 88 (f := .noat "TooWide" "by") rfl)) (He.noat_ok (c.t.d.fact 89 (f := .noat "TooWide" "count") rfl)) (He.noat_ok (c.t.d.fact 90 (f := .noat "TooWide" "row") rfl))⟩, xfB_ok (Hk.ex_at (exs := exs) c.more 49 rfl), (of_decide_eq_true (Hk.ex_at (exs := exs) c.more 50 rfl)), xi_mk (of_decide_eq_true (Hk.ex_at (exs := exs) c.more 51 rfl)) (of_decide_eq_true (Hk.ex_at (exs := exs) c.more 52 rfl)) (fun_mk l cd (fun _ _ _ _ _ _ us hl => match us, hl with | [_, _], _ => rfl))⟩
theorem h_d_natural_of (X : K.In h) (G : h.Ns mainGlobals mg) (c : He.SaysX hfacts hfn [] htf hex w h K) : Has K mg "natural_of" t_natural_of ["text", "most"] := by
  obtain ⟨fd, F⟩ := (c.t.d.def_ 7 (d := dd7) rfl)
  obtain ⟨oc, od, kV, doc, pm, an, cdv, ct, osl, l, cd, kp⟩ := Hk.lk_of F
  exact has_mk X G (He.eqO_ok (c.t.d.fact 91 (f := .glo "natural_of") rfl)) l cd kp (fun _ _ _ _ _ _ us hl => match us, hl with | [_, _], _ => rfl)
theorem h_d_integer_of (X : K.In h) (G : h.Ns mainGlobals mg) (c : He.SaysX hfacts hfn [] htf hex w h K) : Has K mg "integer_of" t_integer_of ["text", "most"] := by
  obtain ⟨fd, F⟩ := (c.t.d.def_ 8 (d := dd8) rfl)
  obtain ⟨oc, od, kV, doc, pm, an, cdv, ct, osl, l, cd, kp⟩ := Hk.lk_of F
  exact has_mk X G (He.eqO_ok (c.t.d.fact 92 (f := .glo "integer_of") rfl)) l cd kp (fun _ _ _ _ _ _ us hl => match us, hl with | [_, _], _ => rfl)
theorem h_d_place_of (X : K.In h) (G : h.Ns mainGlobals mg) (c : He.SaysX hfacts hfn [] htf hex w h K) : Has K mg "place_of" t_place_of ["text", "most"] := by
  obtain ⟨fd, F⟩ := (c.t.d.def_ 9 (d := dd9) rfl)
  obtain ⟨oc, od, kV, doc, pm, an, cdv, ct, osl, l, cd, kp⟩ := Hk.lk_of F
  exact has_mk X G (He.eqO_ok (c.t.d.fact 93 (f := .glo "place_of") rfl)) l cd kp (fun _ _ _ _ _ _ us hl => match us, hl with | [_, _], _ => rfl)
theorem h_d_place_text (X : K.In h) (G : h.Ns mainGlobals mg) (c : He.SaysX hfacts hfn [] htf hex w h K) : Has K mg "place_text" t_place_text ["place"] := by
  obtain ⟨fd, F⟩ := (c.t.d.def_ 10 (d := dd10) rfl)
  obtain ⟨oc, od, kV, doc, pm, an, cdv, ct, osl, l, cd, kp⟩ := Hk.lk_of F
  exact has_mk X G (He.eqO_ok (c.t.d.fact 94 (f := .glo "place_text") rfl)) l cd kp (fun _ _ _ _ _ _ us hl => match us, hl with | [_], _ => rfl)
theorem h_d_check_lanes (X : K.In h) (G : h.Ns mainGlobals mg) (c : He.SaysX hfacts hfn [] htf hex w h K) : Has K mg "check_lanes" sCheckLanes ["lanes"] := by
  obtain ⟨fd, F⟩ := (c.t.d.def_ 11 (d := dd11) rfl)
  obtain ⟨oc, od, kV, doc, pm, an, cdv, ct, osl, l, cd, kp⟩ := Hk.lk_of F
  exact has_mk X G (He.eqO_ok (c.t.d.fact 95 (f := .glo "check_lanes") rfl)) l cd kp (fun _ _ _ _ _ _ us hl => match us, hl with | [_], _ => rfl)
theorem h_d_check_width (X : K.In h) (G : h.Ns mainGlobals mg) (c : He.SaysX hfacts hfn [] htf hex w h K) : Has K mg "check_width" sCheckWidth ["bounds"] := by
  obtain ⟨fd, F⟩ := (c.t.d.def_ 12 (d := dd12) rfl)
  obtain ⟨oc, od, kV, doc, pm, an, cdv, ct, osl, l, cd, kp⟩ := Hk.lk_of F
  exact has_mk X G (He.eqO_ok (c.t.d.fact 96 (f := .glo "check_width") rfl)) l cd kp (fun _ _ _ _ _ _ us hl => match us, hl with | [_], _ => rfl)
theorem h_d_is_place (X : K.In h) (G : h.Ns mainGlobals mg) (c : He.SaysX hfacts hfn [] htf hex w h K) : Has K mg "is_place" sIsPlace ["lanes", "place"] := by
  obtain ⟨fd, F⟩ := (c.t.d.def_ 13 (d := dd13) rfl)
  obtain ⟨oc, od, kV, doc, pm, an, cdv, ct, osl, l, cd, kp⟩ := Hk.lk_of F
  exact has_mk X G (He.eqO_ok (c.t.d.fact 97 (f := .glo "is_place") rfl)) l cd kp (fun _ _ _ _ _ _ us hl => match us, hl with | [_, _], _ => rfl)
theorem h_d_copied_rows (X : K.In h) (G : h.Ns mainGlobals mg) (c : He.SaysX hfacts hfn [] htf hex w h K) : Has K mg "copied_rows" sCopied ["lanes", "goals"] := by
  obtain ⟨fd, F⟩ := (c.t.d.def_ 14 (d := dd14) rfl)
  obtain ⟨oc, od, kV, doc, pm, an, cdv, ct, osl, l, cd, kp⟩ := Hk.lk_of F
  exact has_mk X G (He.eqO_ok (c.t.d.fact 98 (f := .glo "copied_rows") rfl)) l cd kp (fun _ _ _ _ _ _ us hl => match us, hl with | [_, _], _ => rfl)
theorem h_d_check_images (X : K.In h) (G : h.Ns mainGlobals mg) (c : He.SaysX hfacts hfn [] htf hex w h K) : Has K mg "check_images" sImages ["drifts", "rows"] := by
  obtain ⟨fd, F⟩ := (c.t.d.def_ 15 (d := dd15) rfl)
  obtain ⟨oc, od, kV, doc, pm, an, cdv, ct, osl, l, cd, kp⟩ := Hk.lk_of F
  exact has_mk X G (He.eqO_ok (c.t.d.fact 99 (f := .glo "check_images") rfl)) l cd kp (fun _ _ _ _ _ _ us hl => match us, hl with | [_, _], _ => rfl)
theorem h_d_check_bijective (X : K.In h) (G : h.Ns mainGlobals mg) (c : He.SaysX hfacts hfn [] htf hex w h K) : Has K mg "check_bijective" sBijective ["drifts", "rows"] := by
  obtain ⟨fd, F⟩ := (c.t.d.def_ 16 (d := dd16) rfl)
  obtain ⟨oc, od, kV, doc, pm, an, cdv, ct, osl, l, cd, kp⟩ := Hk.lk_of F
  exact has_mk X G (He.eqO_ok (c.t.d.fact 100 (f := .glo "check_bijective") rfl)) l cd kp (fun _ _ _ _ _ _ us hl => match us, hl with | [_, _], _ => rfl)
theorem h_d_first_wrong (X : K.In h) (G : h.Ns mainGlobals mg) (c : He.SaysX hfacts hfn [] htf hex w h K) : Has K mg "first_wrong" sWrong ["counts", "start"] := by
  obtain ⟨fd, F⟩ := (c.t.d.def_ 17 (d := dd17) rfl)
  obtain ⟨oc, od, kV, doc, pm, an, cdv, ct, osl, l, cd, kp⟩ := Hk.lk_of F
  exact has_mk X G (He.eqO_ok (c.t.d.fact 101 (f := .glo "first_wrong") rfl)) l cd kp (fun _ _ _ _ _ _ us hl => match us, hl with | [_, _], _ => rfl)
theorem h_d_trimmed (X : K.In h) (G : h.Ns mainGlobals mg) (c : He.SaysX hfacts hfn [] htf hex w h K) : Has K mg "trimmed" sTrimmed ["lane", "drift", "row"] := by
  obtain ⟨fd, F⟩ := (c.t.d.def_ 18 (d := dd18) rfl)
  obtain ⟨oc, od, kV, doc, pm, an, cdv, ct, osl, l, cd, kp⟩ := Hk.lk_of F
  exact has_mk X G (He.eqO_ok (c.t.d.fact 102 (f := .glo "trimmed") rfl)) l cd kp (fun _ _ _ _ _ _ us hl => match us, hl with | [_, _, _], _ => rfl)
theorem h_d_part_text (X : K.In h) (G : h.Ns mainGlobals mg) (c : He.SaysX hfacts hfn [] htf hex w h K) : Has K mg "part_text" t_part_text ["drift", "row"] := by
  obtain ⟨fd, F⟩ := (c.t.d.def_ 19 (d := dd19) rfl)
  obtain ⟨oc, od, kV, doc, pm, an, cdv, ct, osl, l, cd, kp⟩ := Hk.lk_of F
  exact has_mk X G (He.eqO_ok (c.t.d.fact 103 (f := .glo "part_text") rfl)) l cd kp (fun _ _ _ _ _ _ us hl => match us, hl with | [_, _], _ => rfl)
theorem h_d_format_map (X : K.In h) (G : h.Ns mainGlobals mg) (c : He.SaysX hfacts hfn [] htf hex w h K) : Has K mg "format_map" t_format_map ["lane_map"] := by
  obtain ⟨fd, F⟩ := (c.t.d.def_ 20 (d := dd20) rfl)
  obtain ⟨oc, od, kV, doc, pm, an, cdv, ct, osl, l, cd, kp⟩ := Hk.lk_of F
  exact has_mk X G (He.eqO_ok (c.t.d.fact 104 (f := .glo "format_map") rfl)) l cd kp (fun _ _ _ _ _ _ us hl => match us, hl with | [_], _ => rfl)
theorem h_d_read_part (X : K.In h) (G : h.Ns mainGlobals mg) (c : He.SaysX hfacts hfn [] htf hex w h K) : Has K mg "read_part" t_read_part ["part"] := by
  obtain ⟨fd, F⟩ := (c.t.d.def_ 21 (d := dd21) rfl)
  obtain ⟨oc, od, kV, doc, pm, an, cdv, ct, osl, l, cd, kp⟩ := Hk.lk_of F
  exact has_mk X G (He.eqO_ok (c.t.d.fact 105 (f := .glo "read_part") rfl)) l cd kp (fun _ _ _ _ _ _ us hl => match us, hl with | [_], _ => rfl)
theorem h_d_read_parts (X : K.In h) (G : h.Ns mainGlobals mg) (c : He.SaysX hfacts hfn [] htf hex w h K) : Has K mg "read_parts" t_read_parts ["text"] := by
  obtain ⟨fd, F⟩ := (c.t.d.def_ 22 (d := dd22) rfl)
  obtain ⟨oc, od, kV, doc, pm, an, cdv, ct, osl, l, cd, kp⟩ := Hk.lk_of F
  exact has_mk X G (He.eqO_ok (c.t.d.fact 106 (f := .glo "read_parts") rfl)) l cd kp (fun _ _ _ _ _ _ us hl => match us, hl with | [_], _ => rfl)
theorem h_d_parse_map (X : K.In h) (G : h.Ns mainGlobals mg) (c : He.SaysX hfacts hfn [] htf hex w h K) : Has K mg "parse_map" t_parse_map ["text"] := by
  obtain ⟨fd, F⟩ := (c.t.d.def_ 23 (d := dd23) rfl)
  obtain ⟨oc, od, kV, doc, pm, an, cdv, ct, osl, l, cd, kp⟩ := Hk.lk_of F
  exact has_mk X G (He.eqO_ok (c.t.d.fact 107 (f := .glo "parse_map") rfl)) l cd kp (fun _ _ _ _ _ _ us hl => match us, hl with | [_], _ => rfl)
theorem h_d__law_bag (X : K.In h) (G : h.Ns mainGlobals mg) (c : He.SaysX hfacts hfn [] htf hex w h K) : Has K mg "_law_bag" sBag ["_law_script"] := by
  obtain ⟨fd, F⟩ := (c.t.d.def_ 24 (d := dd24) rfl)
  obtain ⟨oc, od, kV, doc, pm, an, cdv, ct, osl, l, cd, kp⟩ := Hk.lk_of F
  exact has_mk X G (He.eqO_ok (c.t.d.fact 108 (f := .glo "_law_bag") rfl)) l cd kp (fun _ _ _ _ _ _ us hl => match us, hl with | [_], _ => rfl)
theorem h_d__law_pull (X : K.In h) (G : h.Ns mainGlobals mg) (c : He.SaysX hfacts hfn [] htf hex w h K) : Has K mg "_law_pull" sPull ["_law_bag_here", "_law_size"] := by
  obtain ⟨fd, F⟩ := (c.t.d.def_ 25 (d := dd25) rfl)
  obtain ⟨oc, od, kV, doc, pm, an, cdv, ct, osl, l, cd, kp⟩ := Hk.lk_of F
  exact has_mk X G (He.eqO_ok (c.t.d.fact 109 (f := .glo "_law_pull") rfl)) l cd kp (fun _ _ _ _ _ _ us hl => match us, hl with | [_, _], _ => rfl)
theorem h_d__law_of (X : K.In h) (G : h.Ns mainGlobals mg) (c : He.SaysX hfacts hfn [] htf hex w h K) : Has K mg "_law_of" sOf ["_law_bag_here", "_law_some"] := by
  obtain ⟨fd, F⟩ := (c.t.d.def_ 26 (d := dd26) rfl)
  obtain ⟨oc, od, kV, doc, pm, an, cdv, ct, osl, l, cd, kp⟩ := Hk.lk_of F
  exact has_mk X G (He.eqO_ok (c.t.d.fact 110 (f := .glo "_law_of") rfl)) l cd kp (fun _ _ _ _ _ _ us hl => match us, hl with | [_, _], _ => rfl)
theorem h_d__law_drifts (X : K.In h) (G : h.Ns mainGlobals mg) (c : He.SaysX hfacts hfn [] htf hex w h K) : Has K mg "_law_drifts" sDrifts ["_law_bag_here", "_law_wide", "_law_steps"] := by
  obtain ⟨fd, F⟩ := (c.t.d.def_ 27 (d := dd27) rfl)
  obtain ⟨oc, od, kV, doc, pm, an, cdv, ct, osl, l, cd, kp⟩ := Hk.lk_of F
  exact has_mk X G (He.eqO_ok (c.t.d.fact 111 (f := .glo "_law_drifts") rfl)) l cd kp (fun _ _ _ _ _ _ us hl => match us, hl with | [_, _, _], _ => rfl)
theorem h_d__law_deal (X : K.In h) (G : h.Ns mainGlobals mg) (c : He.SaysX hfacts hfn [] htf hex w h K) : Has K mg "_law_deal" sDeal ["_law_bag_here", "_law_drifts_here", "_law_more"] := by
  obtain ⟨fd, F⟩ := (c.t.d.def_ 28 (d := dd28) rfl)
  obtain ⟨oc, od, kV, doc, pm, an, cdv, ct, osl, l, cd, kp⟩ := Hk.lk_of F
  exact has_mk X G (He.eqO_ok (c.t.d.fact 112 (f := .glo "_law_deal") rfl)) l cd kp (fun _ _ _ _ _ _ us hl => match us, hl with | [_, _, _], _ => rfl)
theorem h_d__law_any (X : K.In h) (G : h.Ns mainGlobals mg) (c : He.SaysX hfacts hfn [] htf hex w h K) : Has K mg "_law_any" sAny ["_law_bag_here", "_law_wide", "_law_steps", "_law_more"] := by
  obtain ⟨fd, F⟩ := (c.t.d.def_ 29 (d := dd29) rfl)
  obtain ⟨oc, od, kV, doc, pm, an, cdv, ct, osl, l, cd, kp⟩ := Hk.lk_of F
  exact has_mk X G (He.eqO_ok (c.t.d.fact 113 (f := .glo "_law_any") rfl)) l cd kp (fun _ _ _ _ _ _ us hl => match us, hl with | [_, _, _, _], _ => rfl)
theorem h_d__law_least (X : K.In h) (G : h.Ns mainGlobals mg) (c : He.SaysX hfacts hfn [] htf hex w h K) : Has K mg "_law_least" sLeast ["_law_d"] := by
  obtain ⟨fd, F⟩ := (c.t.d.def_ 30 (d := dd30) rfl)
  obtain ⟨oc, od, kV, doc, pm, an, cdv, ct, osl, l, cd, kp⟩ := Hk.lk_of F
  exact has_mk X G (He.eqO_ok (c.t.d.fact 114 (f := .glo "_law_least") rfl)) l cd kp (fun _ _ _ _ _ _ us hl => match us, hl with | [_], _ => rfl)
theorem h_d__law_is_map (X : K.In h) (G : h.Ns mainGlobals mg) (c : He.SaysX hfacts hfn [] htf hex w h K) : Has K mg "_law_is_map" sIsMap ["_law_found", "_law_d"] := by
  obtain ⟨fd, F⟩ := (c.t.d.def_ 31 (d := dd31) rfl)
  obtain ⟨oc, od, kV, doc, pm, an, cdv, ct, osl, l, cd, kp⟩ := Hk.lk_of F
  exact has_mk X G (He.eqO_ok (c.t.d.fact 115 (f := .glo "_law_is_map") rfl)) l cd kp (fun _ _ _ _ _ _ us hl => match us, hl with | [_, _], _ => rfl)
theorem h_d__law_like (X : K.In h) (G : h.Ns mainGlobals mg) (c : He.SaysX hfacts hfn [] htf hex w h K) : Has K mg "_law_like" sLike ["_law_found", "_law_due"] := by
  obtain ⟨fd, F⟩ := (c.t.d.def_ 32 (d := dd32) rfl)
  obtain ⟨oc, od, kV, doc, pm, an, cdv, ct, osl, l, cd, kp⟩ := Hk.lk_of F
  exact has_mk X G (He.eqO_ok (c.t.d.fact 116 (f := .glo "_law_like") rfl)) l cd kp (fun _ _ _ _ _ _ us hl => match us, hl with | [_, _], _ => rfl)
theorem h_d__law_field (X : K.In h) (G : h.Ns mainGlobals mg) (c : He.SaysX hfacts hfn [] htf hex w h K) : Has K mg "_law_field" sField ["_law_e"] := by
  obtain ⟨fd, F⟩ := (c.t.d.def_ 33 (d := dd33) rfl)
  obtain ⟨oc, od, kV, doc, pm, an, cdv, ct, osl, l, cd, kp⟩ := Hk.lk_of F
  exact has_mk X G (He.eqO_ok (c.t.d.fact 117 (f := .glo "_law_field") rfl)) l cd kp (fun _ _ _ _ _ _ us hl => match us, hl with | [_], _ => rfl)
theorem h_d__law_told (X : K.In h) (G : h.Ns mainGlobals mg) (c : He.SaysX hfacts hfn [] htf hex w h K) : Has K mg "_law_told" sTold ["_law_ask"] := by
  obtain ⟨fd, F⟩ := (c.t.d.def_ 34 (d := dd34) rfl)
  obtain ⟨oc, od, kV, doc, pm, an, cdv, ct, osl, l, cd, kp⟩ := Hk.lk_of F
  exact has_mk X G (He.eqO_ok (c.t.d.fact 118 (f := .glo "_law_told") rfl)) l cd kp (fun _ _ _ _ _ _ us hl => match us, hl with | [_], _ => rfl)
theorem h_d__law_map_text (X : K.In h) (G : h.Ns mainGlobals mg) (c : He.SaysX hfacts hfn [] htf hex w h K) : Has K mg "_law_map_text" t__law_map_text ["_law_d"] := by
  obtain ⟨fd, F⟩ := (c.t.d.def_ 35 (d := dd35) rfl)
  obtain ⟨oc, od, kV, doc, pm, an, cdv, ct, osl, l, cd, kp⟩ := Hk.lk_of F
  exact has_mk X G (He.eqO_ok (c.t.d.fact 119 (f := .glo "_law_map_text") rfl)) l cd kp (fun _ _ _ _ _ _ us hl => match us, hl with | [_], _ => rfl)
theorem h_d__law_number_in (X : K.In h) (G : h.Ns mainGlobals mg) (c : He.SaysX hfacts hfn [] htf hex w h K) : Has K mg "_law_number_in" t__law_number_in ["_law_word"] := by
  obtain ⟨fd, F⟩ := (c.t.d.def_ 36 (d := dd36) rfl)
  obtain ⟨oc, od, kV, doc, pm, an, cdv, ct, osl, l, cd, kp⟩ := Hk.lk_of F
  exact has_mk X G (He.eqO_ok (c.t.d.fact 120 (f := .glo "_law_number_in") rfl)) l cd kp (fun _ _ _ _ _ _ us hl => match us, hl with | [_], _ => rfl)
theorem h_d__law_place_in (X : K.In h) (G : h.Ns mainGlobals mg) (c : He.SaysX hfacts hfn [] htf hex w h K) : Has K mg "_law_place_in" t__law_place_in ["_law_word"] := by
  obtain ⟨fd, F⟩ := (c.t.d.def_ 37 (d := dd37) rfl)
  obtain ⟨oc, od, kV, doc, pm, an, cdv, ct, osl, l, cd, kp⟩ := Hk.lk_of F
  exact has_mk X G (He.eqO_ok (c.t.d.fact 121 (f := .glo "_law_place_in") rfl)) l cd kp (fun _ _ _ _ _ _ us hl => match us, hl with | [_], _ => rfl)
theorem h_d__law_parts_in (X : K.In h) (G : h.Ns mainGlobals mg) (c : He.SaysX hfacts hfn [] htf hex w h K) : Has K mg "_law_parts_in" t__law_parts_in ["_law_text"] := by
  obtain ⟨fd, F⟩ := (c.t.d.def_ 38 (d := dd38) rfl)
  obtain ⟨oc, od, kV, doc, pm, an, cdv, ct, osl, l, cd, kp⟩ := Hk.lk_of F
  exact has_mk X G (He.eqO_ok (c.t.d.fact 122 (f := .glo "_law_parts_in") rfl)) l cd kp (fun _ _ _ _ _ _ us hl => match us, hl with | [_], _ => rfl)
theorem h_d__law_is_model (X : K.In h) (G : h.Ns mainGlobals mg) (c : He.SaysX hfacts hfn [] htf hex w h K) : Has K mg "_law_is_model" t__law_is_model ["_law_d"] := by
  obtain ⟨fd, F⟩ := (c.t.d.def_ 39 (d := dd39) rfl)
  obtain ⟨oc, od, kV, doc, pm, an, cdv, ct, osl, l, cd, kp⟩ := Hk.lk_of F
  exact has_mk X G (He.eqO_ok (c.t.d.fact 123 (f := .glo "_law_is_model") rfl)) l cd kp (fun _ _ _ _ _ _ us hl => match us, hl with | [_], _ => rfl)
theorem h_d__law_bent (X : K.In h) (G : h.Ns mainGlobals mg) (c : He.SaysX hfacts hfn [] htf hex w h K) : Has K mg "_law_bent" t__law_bent ["_law_bag_here", "_law_text"] := by
  obtain ⟨fd, F⟩ := (c.t.d.def_ 40 (d := dd40) rfl)
  obtain ⟨oc, od, kV, doc, pm, an, cdv, ct, osl, l, cd, kp⟩ := Hk.lk_of F
  exact has_mk X G (He.eqO_ok (c.t.d.fact 124 (f := .glo "_law_bent") rfl)) l cd kp (fun _ _ _ _ _ _ us hl => match us, hl with | [_, _], _ => rfl)
theorem h_m___len__ (X : K.In h) (G : h.Ns mainGlobals mg) (c : He.SaysX hfacts hfn [] htf hex w h K) : HasM K (He.ga K "LaneMap") "__len__" "LaneMap.__len__" (inClass sMap 8) ["self"] := by
  obtain ⟨fd, F⟩ := (c.t.d.def_ 41 (d := dd41) rfl)
  obtain ⟨oc, od, kV, doc, pm, an, cdv, ct, osl, l, cd, kp⟩ := Hk.lk_of F
  have M := He.meth_ok (c.t.d.fact 125 (f := .meth "LaneMap" "__len__") rfl)
  exact hasM_mk M.at_ M.fn l cd kp (fun _ _ _ _ _ _ us hl => match us, hl with | [_], _ => rfl)
theorem h_m___str__ (X : K.In h) (G : h.Ns mainGlobals mg) (c : He.SaysX hfacts hfn [] htf hex w h K) : HasM K (He.ga K "LaneMap") "__str__" "LaneMap.__str__" (inClass sMap 10) ["self"] := by
  obtain ⟨fd, F⟩ := (c.t.d.def_ 42 (d := dd42) rfl)
  obtain ⟨oc, od, kV, doc, pm, an, cdv, ct, osl, l, cd, kp⟩ := Hk.lk_of F
  have M := He.meth_ok (c.t.d.fact 126 (f := .meth "LaneMap" "__str__") rfl)
  exact hasM_mk M.at_ M.fn l cd kp (fun _ _ _ _ _ _ us hl => match us, hl with | [_], _ => rfl)
theorem h_m_drifts (X : K.In h) (G : h.Ns mainGlobals mg) (c : He.SaysX hfacts hfn [] htf hex w h K) : HasM K (He.ga K "LaneMap") "drifts" "LaneMap.drifts" (inClass sMap 2) ["self"] := by
  obtain ⟨fd, F⟩ := (c.t.d.def_ 43 (d := dd43) rfl)
  obtain ⟨oc, od, kV, doc, pm, an, cdv, ct, osl, l, cd, kp⟩ := Hk.lk_of F
  have M := He.meth_ok (c.t.d.fact 127 (f := .meth "LaneMap" "drifts") rfl)
  exact hasM_mk M.at_ M.fn l cd kp (fun _ _ _ _ _ _ us hl => match us, hl with | [_], _ => rfl)
theorem h_m_goals (X : K.In h) (G : h.Ns mainGlobals mg) (c : He.SaysX hfacts hfn [] htf hex w h K) : HasM K (He.ga K "LaneMap") "goals" "LaneMap.goals" (inClass sMap 4) ["self"] := by
  obtain ⟨fd, F⟩ := (c.t.d.def_ 44 (d := dd44) rfl)
  obtain ⟨oc, od, kV, doc, pm, an, cdv, ct, osl, l, cd, kp⟩ := Hk.lk_of F
  have M := He.meth_ok (c.t.d.fact 128 (f := .meth "LaneMap" "goals") rfl)
  exact hasM_mk M.at_ M.fn l cd kp (fun _ _ _ _ _ _ us hl => match us, hl with | [_], _ => rfl)
theorem h_all (X : K.In h) (G : h.Ns mainGlobals mg) (c : He.SaysX hfacts hfn [] htf hex w h K) : All K mg (He.ga K "LaneMap") (He.ga K "BadGoal") (He.ga K "BadLanes") (He.ga K "BadText") (He.ga K "NotBijective") (He.ga K "TooWide") (He.ga K "LaneError") (He.ga K "Missing") (He.ga K "NothingLeft") := ⟨h_bl X G c, h_tx X G c, h_ml X G c, h_xa X G c, h_ic X G c, h_mw X G c, h_sbBadLanes X G c, h_sbTooWide X G c, h_sbBadGoal X G c, h_sbNotBijective X G c, h_xBadGoal X G c, h_xBadLanes X G c, h_xBadText X G c, h_xNotBijective X G c, h_xTooWide X G c, h_d_natural_of X G c, h_d_integer_of X G c, h_d_place_of X G c, h_d_place_text X G c, h_d_check_lanes X G c, h_d_check_width X G c, h_d_is_place X G c, h_d_copied_rows X G c, h_d_check_images X G c, h_d_check_bijective X G c, h_d_first_wrong X G c, h_d_trimmed X G c, h_d_part_text X G c, h_d_format_map X G c, h_d_read_part X G c, h_d_read_parts X G c, h_d_parse_map X G c, h_d__law_bag X G c, h_d__law_pull X G c, h_d__law_of X G c, h_d__law_drifts X G c, h_d__law_deal X G c, h_d__law_any X G c, h_d__law_least X G c, h_d__law_is_map X G c, h_d__law_like X G c, h_d__law_field X G c, h_d__law_told X G c, h_d__law_map_text X G c, h_d__law_number_in X G c, h_d__law_place_in X G c, h_d__law_parts_in X G c, h_d__law_is_model X G c, h_d__law_bent X G c, h_m___len__ X G c, h_m___str__ X G c, h_m_drifts X G c, h_m_goals X G c⟩
theorem h_law {l : PySem.W.OpenLaw} {fa : Addr} (X : K.In h) (G : h.Ns mainGlobals mg) (hfa : mg "law" = some (.ref fa)) (c : He.SaysX hfacts hfn [] htf hex w h K) : LawAtS l w K C8.CX0 12 63 "_law_script" mg fa h := by
  obtain ⟨fd, F⟩ := (c.t.d.def_ 45 (d := dd45) rfl)
  obtain ⟨oc, od, kV, doc, pm, an, ct, osl, l, cd, kp⟩ := Hk.lkC_of F
  exact law_at (c0 := He.codeOf K (("law" : Str), (none : Option Str))) (Tb0 := (He.cT K (("law" : Str), (none : Option Str))).2) X G hfa (h_all X G c) (He.eqO_ok (c.t.d.fact 129 (f := .glo "law") rfl)) l cd (fun P hP => by
    simp only [List.mem_cons, List.not_mem_nil, or_false] at hP
    rcases hP with rfl
    · exact c.empty _ (show ((("law" : Str), (none : Option Str)) : He.Defn) ∈ htf by simp [htf])) (c.hd _ (show ((("law" : Str), (none : Option Str)) : He.Defn) ∈ htf by simp [htf])) (c.out _ (show ((("law" : Str), (none : Option Str)) : He.Defn) ∈ htf by simp [htf])) 
end
end L2.FK
open PySem PySem.W PySem.Calls PyProof.Rows
set_option maxRecDepth 100000 in
set_option maxHeartbeats 0 in
theorem PySem.Challenge.cw_farlanes_k41_whole_texts_are_maps_or_non_holds : PySem.Challenge.rw_farlanes_k41_whole_texts_are_maps_or_non.Holds := by
  w_on; o_law
  refine HandSHeadRun.head_any (r := OpenLaw.row PySem.Challenge.rw_farlanes_k41_whole_texts_are_maps_or_non) (q := L2.FK.qv) (H := L2.FK.hk) (ob := L2.FK.hob) (M := 60000) (loose := L2.FK.hnames) (d := HandSHeadRun.topDef (OpenLaw.row PySem.Challenge.rw_farlanes_k41_whole_texts_are_maps_or_non).prog 52) (kwd := []) L2.FK.hob_eq
    (by kernel_rfl) (fun s => by kernel_rfl) L2.FK.hrun (by kernel_rfl) (by kernel_rfl) (by kernel_rfl) (by rfl) (by first | assumption | decide +kernel) (by decide +kernel) ⟨rfl, rfl, rfl, rfl, rfl, by decide +kernel⟩ ?hw ?hc
  case hw => w_witness2
  case hc =>
    refine LamX.walk_ofTsE (l := PySem.Challenge.rw_farlanes_k41_whole_texts_are_maps_or_non) (n := 63) (k := 12) (x := "_law_script") (CX := fun _ => C8.CX0) rfl (by decide) (by kernel_rfl) ⟨rfl, by decide, by decide⟩ ?F (fun _ _ _ _ _ z => z)
    intro w mg fa h Y G hmg0
    obtain ⟨K, KX, c⟩ := Y
    have hmg : mg ("law" : PySem.Str) = some (.ref fa) := by
      have e : (HandSHeadRun.topDef (OpenLaw.row PySem.Challenge.rw_farlanes_k41_whole_texts_are_maps_or_non).prog 52).name = ("law" : PySem.Str) := by kernel_rfl
      rw [← e]
      exact hmg0
    exact ⟨K, KX, L2.FK.h_law KX G hmg c⟩
