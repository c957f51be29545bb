import PyProof.Rows.All
import Wide.All
import OpenK.AllK
import Wide.FinOn
import PyProof.EqAt
import PyProof.EqKinds
import PyProof.TupleCall
import PyProof.DictCompW
import KE.DataMinMax
import HandS.ForMost
import HandS.ForExc
import HandS.DictComp
import HandS.DictTup
import HandS.TupLen
import HandS.IsInst
import HandS.OwnEq
import HandS.Defaults
import HandS.MakeKw
import HandS.SortKw
import HandS.Codes
import HandS.Flow
import HandS.Zip
import HandS.Walk
import HandS.Deep
import PySem.Challenge.RW_farlanes_k48_programs_of_expressions
set_option Elab.async false
set_option linter.all false
set_option maxRecDepth 100000
set_option maxHeartbeats 4000000
/-! Rules of our own over the hand layer: dict comprehensions with tuple keys (one for, two fors), min with a default. -/
namespace L2.FL
open PySem PySem.Spec PyProof.Rows

/-- the store of a dict comprehension under a key that is a tuple -/
theorem dset_tup {X : Cx} {pins : List (Addr × Obj)} {σ : St} {H : Hp} {s : Shared} {E : Value → Shared → Prop} {D b : Addr}
    {kvs : List (List Key × V)} {k : List Key} {v : V} {r : Value} {Q : Unit → Shared → Prop}
    (hu : X.A.units < cLine) (I : Inv X pins σ H s) (hD : H D = some (.dT kvs)) (hb : H b = some (.tup (k.map kV)))
    (hz : kvs.length < sizeLine) (rv : RelV v r)
    (done : ∀ s', Inv X pins σ (upd H D (.dT (putK kvs k v))) s' → Q () s') :
    wpAny (model X.prog X.w) X.A (dictSet D (.ref b) r) Q E s := by
  obtain ⟨z, hd, xs, rel, dd⟩ := dt_of I.hok hD
  have hzx : xs.length ≤ sizeLine := Paired.length rel ▸ z
  have hl : (putK kvs k v).length ≤ sizeLine := Nat.le_trans (length_putK kvs k v) hz
  refine wpAny_dictSet_heap (hsz := hzx) (knd := tupleKind (mixKind X.prog X.w)) hu (key_of I.hok hb) dd fun h' dd' hs => done _ ?_
  obtain ⟨q, es, ep, hq, e2, e3, e4, _, e5⟩ := dd'
  have tups : ∀ c ys, H c = some (.tup ys) → upd H D (.dT (putK kvs k v)) c = some (.tup ys) := fun c ys ec => by
    rw [upd_ne (ne_of ec hD (fun y => nomatch y))]; exact ec
  exact d_write I (by rw [hD]; trivial) hs ⟨q, hq⟩ ⟨hl, hd, _, (rel.put k hb rv).keeps tups, q, es, ep, hq, e2, e3, e4, e5⟩

/-! ### {k: v for target in iter}, the keys tuples -/
section
variable {X : Cx}
/-- what the comprehension asks; D is the new dict -/
def tDcT (wi : TI) (g : TG) (tk tv : TE) (vs : List Nat) : TE := fun σ H Q => wi σ H fun J H1 => ∀ D, H1 D = none →
  ∃ W : Nat → Nat → Hp → Prop, (∃ m, W 0 m (upd H1 D (.dT []))) ∧ ∀ i m H, W i m H →
    (J.stop i H ∧ Q (.ref D) H) ∨
    (J.go i H ∧ ∃ Nx : Hp → Prop, (∀ H', Nx H' → ∃ m', m' < m ∧ W (i + 1) m' H') ∧ ∀ x H', J.yld i H x H' →
      g x (wipe σ vs) H' fun σ2 H2 => wipe σ2 vs = wipe σ vs ∧ tk σ2 H2 fun y H4 => tv σ2 H4 fun z H5 =>
        ∃ kvs k b, y = .ref b ∧ H5 b = some (.tup (k.map kV)) ∧ H5 D = some (.dT kvs) ∧ kvs.length < sizeLine ∧ Nx (upd H5 D (.dT (putK kvs k z))))

abbrev blkC (X : Cx) (scope : Scope) (s : Shared) (H : Hp) (C : Addr) (cl : List (Str × Addr)) (fp : List Addr) : Cx :=
  X.blk s H scope (compEnvC scope cl C X.env) fp

theorem dcT_core {pins : List (Addr × Obj)} {s : Shared} {σ : St} {H : Hp} {Q : VK} {kx vx tg iter : Expr} {scope : Scope}
    {own : List (Str × Nat)} {pos pos' : Pos} {wi : TI} {g : TG} {tk tv : TE} {use : Option (Value → Sem Unit)} {Qf : Value → Shared → Prop}
    (hu : X.A.units < cLine) (hc : X.calm = true) (hN : X.N.Nodup) (I : Inv X pins σ H s) (hi : PI X tg iter wi)
    (ok : BlkOk X.N X.env.scope scope own)
    (hg : ∀ s H C cl fp, PG (blkC X scope s H C cl fp) tg g)
    (hk : ∀ s H C cl fp, PE (blkC X scope s H C cl fp) kx tk)
    (he : ∀ s H C cl fp, PE (blkC X scope s H C cl fp) vx tv)
    (hs : ∀ x, foldedSetIterable iter X.env x = pure x)
    (h : tDcT wi g tk tv (own.map (·.2)) σ H Q)
    (hRR : ∀ D C s' m H', Inv X pins σ H' s' → Q (.ref D) H' → s'.heap.Ns C m → FpOk X pins H' C →
      compPost (model X.prog X.w) X.A X.xe use Qf (.ref D) C (.ok .next) s') :
    wpAny (model X.prog X.w) X.A
      (comprehension (.DictComp kx vx [⟨tg, iter, [], 0⟩] scope pos) scope X.env pos' newDict false (eval iter X.env) use) Qf X.xe s := by
  have free' : ∀ y ∈ scope.names, y.2 = .free → ∃ c, X.env.cells.lookup y.1 = some c := fun y hy e =>
    (ok.free y hy e).elim (fun k => I.ok.has _ (.inl k)) fun k => I.ok.has _ (.inr k)
  refine wpAny_comprehension_free (use := use) rfl hs (closure_ok free') ok.kind (fun y hy e => by rw [ok.uniq y hy, e]) ?_
  refine thn (hi.run pins s σ H _ I h) fun xv s1 hx => thn hx fun itv s2 h2 => ?_
  obtain ⟨it, fp, tn, J, H2, rfl, I2, T, st2, f2, q⟩ := h2
  refine wpAny_newObj_type (newEnv_comp ?_)
  generalize hD : s2.heap.objs.size = D
  obtain ⟨W, ⟨m0, w0⟩, turn⟩ := q D (I2.hok.fresh (Nat.le_of_eq hD))
  generalize hs3 : ({ s2 with heap := s2.heap.push { cls := .type "dict", data := .dict #[] } } : Shared) = s3
  have hp3 : s3.heap = s2.heap.push { cls := .type "dict", data := .dict #[] } := hs3 ▸ rfl
  have I3 : Inv X pins σ (upd H2 D (.dT [])) s3 := by
    subst hs3 hD
    exact I2.laid (t' := s2.toks) (fun b o e => Heap.get?_push_of_some _ e) (Nat.le_refl _) (dt_empty s2.heap I2.big)
  have below : ∀ b ∈ fp, b < s2.heap.objs.size := fun b hb =>
    let ⟨o, e, _⟩ := T.obj _ _ st2 b hb
    Heap.lt_size e
  have f3 : ∀ b ∈ fp, FpOk X pins (upd H2 D (.dT [])) b ∧ b < s3.heap.objs.size := fun b hb => by
    refine ⟨⟨?_, (f2 b hb).2⟩, by rw [hp3, Heap.size_push]; exact Nat.lt_succ_of_lt (below b hb)⟩
    rw [upd_ne (hD ▸ Nat.ne_of_lt (below b hb))]; exact (f2 b hb).1
  have st3 : tn 0 s3.heap := T.keep _ _ _ st2 fun b _ o e => by rw [hp3]; exact Heap.get?_push_of_some _ e
  have I4 := block_start I3 ok hN f3
  generalize hcl : cellsFrom (s3.heap.objs.size + 1) scope.names (cloFrom X.env.cells scope.names []) = cl at I4
  have pg := hg s3 (upd H2 D (.dT [])) s3.heap.objs.size cl fp
  have pk := hk s3 (upd H2 D (.dT [])) s3.heap.objs.size cl fp
  have pe := he s3 (upd H2 D (.dT [])) s3.heap.objs.size cl fp
  have nfp : ∀ b ∈ fp, (upd H2 D (.dT [])) b = none := fun b hb => (f3 b hb).1.1
  subst hcl
  show codeAny _ _ (.compStart _ 0 (.ref it) (.ref D) (compEnvC scope (cellsFrom (s3.heap.objs.size + 1) scope.names (cloFrom X.env.cells scope.names [])) s3.heap.objs.size X.env)) _ { s3 with heap := pushCells (s3.heap.push { cls := .type "dict", data := .dict #[] }) scope.names }
  unfold blkC at pg pk pe
  generalize hce : compEnvC scope (cellsFrom (s3.heap.objs.size + 1) scope.names (cloFrom X.env.cells scope.names [])) s3.heap.objs.size X.env = ce at I4 pg pk pe ⊢
  have cL : ce.locals = s3.heap.objs.size := hce ▸ rfl
  generalize hH3 : upd H2 D (.dT []) = H3 at I3 I4 pg pk pe w0 nfp f3
  generalize hs4 : ({ s3 with heap := pushCells (s3.heap.push { cls := .type "dict", data := .dict #[] }) scope.names } : Shared) = s4 at I4 ⊢
  have st4 : tn 0 s4.heap := T.keep _ _ _ st3 fun b _ o e => hs4 ▸ pushCells_keeps _ _ _ _ (Heap.get?_push_of_some _ e)
  generalize hB : X.blk s3 H3 scope ce fp = B at I4 pg pk pe
  have bX : B.prog = X.prog ∧ B.w = X.w ∧ B.A = X.A := by subst hB; exact ⟨rfl, rfl, rfl⟩
  have stat : ∀ {σ' : St} {H' : Hp} {s' : Shared}, Inv B [] σ' H' s' → (∀ b ∈ fp, H' b = none) → ∀ b ∈ fp, FpOk B [] H' b := fun I' hn b hb => by
    subst hB
    exact ⟨hn b hb, (I'.ok.exf b hb).1, I'.ok.exfs b hb, .inl hb, fun x c e => (I'.ok.exf b hb).2 x c e, fun p hp => absurd hp (by simp)⟩
  have loop : codeAny (model X.prog X.w) X.A (.compLoop (.DictComp kx vx [⟨tg, iter, [], 0⟩] scope pos) 0 (.ref it) (.ref D) ce)
      (compPost (model X.prog X.w) X.A X.xe use Qf (.ref D) s3.heap.objs.size) s4 := by
    refine compLoop_anyD (fun n s' => ∃ i H', Inv B [] (wipe σ (own.map (·.2))) H' s' ∧ tn i s'.heap ∧ (∀ b ∈ fp, H' b = none) ∧ W i n H') ?_ m0 ⟨0, H3, I4, st4, nfp, w0⟩
    rintro n s5 ⟨i, H5, I5, st5, n5, w5⟩
    rcases turn i n H5 w5 with ⟨stop, qq⟩ | ⟨go, Nx, hNx, step⟩
    · subst hB
      refine thnF (T.done (X.blk s3 H3 scope ce fp) rfl rfl rfl hc i [] s5 _ H5 (fun _ _ => False) I5 (stat I5 n5) st5 stop) fun r s6 ⟨hr, I6⟩ => ?_
      subst hr
      have I7 : Inv X pins σ H5 s6 := I3.call' (ch := fp) I6.os I6.base I6.hok I6.bare fun b hb =>
        let z := (f3 b hb).1
        ⟨z.2.2.2.1, z.2.1, z.2.2.2.2.1, z.2.2.2.2.2⟩
      have nC : H5 s3.heap.objs.size = none := cL ▸ (I6.free : H5 ce.locals = none)
      obtain ⟨m, hn, _⟩ := I6.loc
      have hn : s6.heap.Ns s3.heap.objs.size m := cL ▸ (hn : s6.heap.Ns ce.locals m)
      exact hRR D _ s6 m H5 I7 qq hn (I3.fpOk (Nat.le_refl _) nC)
    · subst hB
      refine thnF (T.item (X.blk s3 H3 scope ce fp) rfl rfl rfl hc i [] s5 _ H5 (fun _ _ => False) I5 (stat I5 n5) st5 go) fun r s6 ⟨u, hr, h6⟩ => ?_
      subst hr
      refine thnF h6 fun _ s7 ⟨x, H7, I7, r7, y7, st7, n7⟩ => ?_
      have I7' := I7.pinned (stat I7 n7) (T.obj _ _ st7)
      refine thnF (pg.run _ s7 _ H7 x u _ I7' r7 (step x H7 y7)) fun _ s8 ⟨σ8, H8, I8, hw8, q8⟩ => ?_
      refine wpAny_pure ?_
      simp only [if_true]
      refine thnF (pk.run _ s8 σ8 H8 _ I8 q8) fun z s10 ⟨yk, H10, I10, r10, q10⟩ => ?_
      refine thnF (pe.run _ s10 σ8 H10 _ I10 q10) fun z2 s11 ⟨yv, H11, I11, r11, kvs, k, b, ek, hb11, hD11, hz11, nx⟩ => ?_
      subst ek
      obtain rfl : z = Value.ref b := r10
      refine dset_tup (X := X.blk s3 H3 scope ce fp) hu I11 hD11 hb11 hz11 r11 fun s12 I12 => ?_
      obtain ⟨m', hm, w'⟩ := hNx _ nx
      have pin' : ∀ b ∈ fp, ∀ o, s7.heap.get? b = some o → s12.heap.get? b = some o ∧ (upd H11 D (.dT (putK kvs k yv))) b = none := fun b hb o e =>
        let z := I12.pin (b, o) (List.mem_append_right _ (List.mem_append_right _ (mem_pinsAt hb e)))
        ⟨z.1, z.2.1⟩
      have hl : (wipe σ (own.map (·.2))).length = σ8.length := by rw [← hw8, wipe_length]
      refine ⟨m', hm, i + 1, _, (I12.unpinned (pins := [])).weak hl (fun j v e => ?_), T.keep _ _ _ st7 fun b hb o e => (pin' b hb o e).1, fun b hb => ?_, w'⟩
      · exact (wipe_some (hw8 ▸ e)).1
      · obtain ⟨o, e, _⟩ := T.obj _ _ st7 b hb
        exact (pin' b hb o e).2
  exact codeAny_compStart_dict loop (T.self X.A 0 _ _ _ st4 loop)
/-- as a value -/
theorem pe_dcT {kx vx tg iter : Expr} {scope : Scope} {own : List (Str × Nat)} {pos : Pos} {wi : TI} {g : TG} {tk tv : TE}
    (hu : X.A.units < cLine) (hc : X.calm = true) (hN : X.N.Nodup) (hi : PI X tg iter wi) (ok : BlkOk X.N X.env.scope scope own)
    (hg : ∀ s H C cl fp, PG (blkC X scope s H C cl fp) tg g)
    (hk : ∀ s H C cl fp, PE (blkC X scope s H C cl fp) kx tk)
    (he : ∀ s H C cl fp, PE (blkC X scope s H C cl fp) vx tv)
    (hs : ∀ x, foldedSetIterable iter X.env x = pure x := by intro _; rfl) :
    PE X (.DictComp kx vx [⟨tg, iter, [], 0⟩] scope pos) (tDcT wi g tk tv (own.map (·.2))) := by
  refine ⟨fun pins s σ H Q I h => ?_⟩
  rw [arm_eval_DictComp]
  refine dcT_core hu hc hN I hi ok hg hk he hs h fun D C s' m H' I' q hn f => ⟨m, hn, fun h'' sb => ?_⟩
  obtain ⟨f0, f1, _, f3, f4, f5⟩ := f
  exact ⟨.ref D, H', I'.turned (t' := s'.toks) (fun b o hb e => (sb.2 b hb).trans e) f0 f1 f3 f4 f5, rfl, q⟩
end

/-! ### {k: v for t0 in i0 for t1 in i1}, the keys tuples -/
section
variable {prog : Program} {w : World} {A : Around} {R : Result → Shared → Prop} {s : Shared} {kx vx t0 i0 t1 i1 : Expr} {scope : Scope} {pos : Pos} {it : Value} {D : Addr} {env : Env}
abbrev dc2 (kx vx t0 i0 t1 i1 : Expr) (scope : Scope) (pos : Pos) : Expr := .DictComp kx vx [⟨t0, i0, [], 0⟩, ⟨t1, i1, [], 0⟩] scope pos
theorem dc2_outer_turn : compTurn (dc2 kx vx t0 i0 t1 i1 scope pos) 0 it (.ref D) env = (do
      standAt i0.pos
      match ← pyNext it with
      | none => pure (.done .next)
      | some v =>
        letOwnedTupleGo t0 it v
        assign t0 env v
        let x ← eval i1 env
        standAt i1.pos
        let x ← foldedSetIterable i1 env x
        let _ ← runOwn (.compStart (dc2 kx vx t0 i0 t1 i1 scope pos) 1 (← holding [x] (pyIter x)) (.ref D) env) env
        again (.compLoop (dc2 kx vx t0 i0 t1 i1 scope pos) 0 it (.ref D) env)) := by rfl
theorem dc2_inner_turn : compTurn (dc2 kx vx t0 i0 t1 i1 scope pos) 1 it (.ref D) env = (do
      standAt i1.pos
      match ← pyNext it with
      | none => pure (.done .next)
      | some v =>
        letOwnedTupleGo t1 it v
        assign t1 env v
        (do
          let kv ← eval kx env
          let vv ← holding [kv] (eval vx env)
          standAt { kx.pos with endLine := vx.pos.endLine, endCol := vx.pos.endCol }
          holding [kv, vv] (dictSet D kv vv))
        again (.compLoop (dc2 kx vx t0 i0 t1 i1 scope pos) 1 it (.ref D) env)) := by rfl
/-- what a raise in the block is asked -/
abbrev nb (prog : Program) (w : World) (A : Around) (env : Env) (R : Result → Shared → Prop) : Value → Shared → Prop :=
  notedBy (model prog w) A env fun e s' => R (.error e) s'
theorem dc2_outer (hs : ∀ x, foldedSetIterable i1 env x = pure x) (I : Nat → Shared → Prop)
    (turn : ∀ n s, I n s → wpAny (model prog w) A (pyNext it) (fun r s1 => match r with
      | none => R (.ok .next) s1
      | some v => wpAny (model prog w) A (letOwnedTupleGo t0 it v) (fun _ s2 =>
          wpAny (model prog w) A (assign t0 env v) (fun _ s3 =>
            wpAny (model prog w) A (eval i1 env) (fun x s4 =>
              wpAny (model prog w) A (pyIter x) (fun it1 s5 =>
                codeAny (model prog w) A (.compStart (dc2 kx vx t0 i0 t1 i1 scope pos) 1 it1 (.ref D) env) (fun r s' => match r with
                  | .ok _ => ∃ m, m < n ∧ I m s'
                  | .error _ => False) s5) (nb prog w A env R) s4) (nb prog w A env R) s3) (nb prog w A env R) s2) (nb prog w A env R) s1) (nb prog w A env R) s)
    (n : Nat) (h : I n s) :
    codeAny (model prog w) A (.compLoop (dc2 kx vx t0 i0 t1 i1 scope pos) 0 it (.ref D) env) R s := by
  refine codeAny_loop rfl I (fun n s hI => ?_) n h
  show wpAny _ A ((compTurn (dc2 kx vx t0 i0 t1 i1 scope pos) 0 it (.ref D) env).onRaise (fun x => do noteFrame x env; theTreesLotGoes x)) _ _ s
  refine wpAny_noted ?_
  rw [dc2_outer_turn]
  refine wpAny_bind (wpAny_standAt (wpAny_bind (wpAny_mono (turn n s hI) (fun r s1 z1 => ?_) fun _ _ z => z)))
  cases r with
  | none => exact wpAny_pure z1
  | some v =>
    refine wpAny_bind (wpAny_mono z1 (fun _ s2 z2 => wpAny_bind (wpAny_mono z2 (fun _ s3 z3 => ?_) fun _ _ z => z)) fun _ _ z => z)
    refine wpAny_bind (wpAny_mono z3 (fun x s4 z4 => ?_) fun _ _ z => z)
    refine wpAny_bind (wpAny_standAt (wpAny_bind (wpAny_of_eq (hs x) (wpAny_bind (wpAny_holding (wpAny_mono z4 (fun it1 s5 z5 => ?_) fun _ _ z => z))))))
    refine wpAny_bind (wpAny_runOwn ?_)
    rw [Around.mark_none]
    refine codeAny_mono z5 fun r s' hr => ?_
    cases r with
    | error e => exact hr.elim
    | ok f =>
      first
        | exact wpAny_pure ⟨rfl, hr⟩
        | exact wpAny_bind (wpAny_pure (wpAny_pure ⟨rfl, hr⟩))
theorem dc2_inner (I : Nat → Shared → Prop)
    (turn : ∀ n s, I n s → wpAny (model prog w) A (pyNext it) (fun r s1 => match r with
      | none => R (.ok .next) s1
      | some v => wpAny (model prog w) A (letOwnedTupleGo t1 it v) (fun _ s2 =>
          wpAny (model prog w) A (assign t1 env v) (fun _ s3 =>
            wpAny (model prog w) A (eval kx env) (fun kv s4 =>
              wpAny (model prog w) A (eval vx env) (fun vv s5 =>
                wpAny (model prog w) A (dictSet D kv vv) (fun _ s6 => ∃ m, m < n ∧ I m s6) (nb prog w A env R) s5) (nb prog w A env R) s4) (nb prog w A env R) s3) (nb prog w A env R) s2) (nb prog w A env R) s1) (nb prog w A env R) s)
    (n : Nat) (h : I n s) :
    codeAny (model prog w) A (.compLoop (dc2 kx vx t0 i0 t1 i1 scope pos) 1 it (.ref D) env) R s := by
  refine codeAny_loop rfl I (fun n s hI => ?_) n h
  show wpAny _ A ((compTurn (dc2 kx vx t0 i0 t1 i1 scope pos) 1 it (.ref D) env).onRaise (fun x => do noteFrame x env; theTreesLotGoes x)) _ _ s
  refine wpAny_noted ?_
  rw [dc2_inner_turn]
  refine wpAny_bind (wpAny_standAt (wpAny_bind (wpAny_mono (turn n s hI) (fun r s1 z1 => ?_) fun _ _ z => z)))
  cases r with
  | none => exact wpAny_pure z1
  | some v =>
    refine wpAny_bind (wpAny_mono z1 (fun _ s2 z2 => wpAny_bind (wpAny_mono z2 (fun _ s3 z3 => ?_) fun _ _ z => z)) fun _ _ z => z)
    refine wpAny_bind (wpAny_bind (wpAny_mono z3 (fun kv s4 z4 => wpAny_bind (wpAny_holding (wpAny_mono z4 (fun vv s5 z5 => ?_) fun _ _ z => z))) fun _ _ z => z))
    exact wpAny_bind (wpAny_standAt (wpAny_holding (wpAny_mono z5 (fun _ s6 z6 => wpAny_pure ⟨rfl, z6⟩) fun _ _ z => z)))
theorem dc2_start1 (h0 : codeAny (model prog w) A (.compLoop (dc2 kx vx t0 i0 t1 i1 scope pos) 1 it (.ref D) env) R s)
    (h : wpAny (model prog w) A (pyIter it) (fun it' s' => codeAny (model prog w) A (.compLoop (dc2 kx vx t0 i0 t1 i1 scope pos) 1 it' (.ref D) env) R s') (nb prog w A env R) s) :
    codeAny (model prog w) A (.compStart (dc2 kx vx t0 i0 t1 i1 scope pos) 1 it (.ref D) env) R s := by
  refine codeAny_of_tree ?_
  show wpAny _ _ ((compStart (dc2 kx vx t0 i0 t1 i1 scope pos) 1 it (.ref D) env).onRaise (fun x => do noteFrame x env; standAt theWindowsPlace)) _ _ s
  refine wpAny_notedAt ?_
  unfold compStart
  show wpAny _ _ (ask >>= _) _ _ s
  refine wpAny_bind (wpAny_askSetting (wpAny_ite ?_))
  split
  · first
      | exact wpAny_pure (And.intro rfl h0)
      | exact wpAny_bind (wpAny_pure (wpAny_pure (And.intro rfl h0)))
  · refine wpAny_bind (wpAny_rule ?_)
    show wpAny _ _ (standAt i1.pos >>= _) _ _ s
    exact wpAny_bind (wpAny_standAt (wpAny_bind (wpAny_mono h (fun it' s' z => wpAny_pure (And.intro rfl z)) fun _ _ x => x)))
end
section
variable {X : Cx}
/-- what the comprehension with two fors asks. vs: the block's names; vs1: those of the second target -/
def tDcT2 (wi : TI) (g : TG) (wi1 : TI) (g1 : TG) (tk tv : TE) (vs vs1 : List Nat) : TE := fun σ H Q => wi σ H fun J H1 => ∀ D, H1 D = none →
  ∃ W : Nat → Nat → Hp → Prop, (∃ m, W 0 m (upd H1 D (.dT []))) ∧ ∀ i m H, W i m H →
    (J.stop i H ∧ Q (.ref D) H) ∨
    (J.go i H ∧ ∃ Nx : Hp → Prop, (∀ H', Nx H' → ∃ m', m' < m ∧ W (i + 1) m' H') ∧ ∀ x H', J.yld i H x H' →
      g x (wipe σ vs) H' fun σ2 H2 => wipe σ2 vs = wipe σ vs ∧ wi1 σ2 H2 fun J1 H4 =>
        ∃ W1 : Nat → Nat → Hp → Prop, (∃ m, W1 0 m H4) ∧ ∀ j k H, W1 j k H →
          (J1.stop j H ∧ Nx H) ∨
          (J1.go j H ∧ ∃ Nx1 : Hp → Prop, (∀ H', Nx1 H' → ∃ k', k' < k ∧ W1 (j + 1) k' H') ∧ ∀ x H', J1.yld j H x H' →
            g1 x (wipe σ2 vs1) H' fun σ3 H5 => wipe σ3 vs1 = wipe σ2 vs1 ∧ tk σ3 H5 fun y H6 => tv σ3 H6 fun z H7 =>
              ∃ kvs k b, y = .ref b ∧ H7 b = some (.tup (k.map kV)) ∧ H7 D = some (.dT kvs) ∧ kvs.length < sizeLine ∧ Nx1 (upd H7 D (.dT (putK kvs k z)))))
theorem dcT2_core {pins : List (Addr × Obj)} {s : Shared} {σ : St} {H : Hp} {Q : VK} {kx vx tg iter tg1 iter1 : Expr} {scope : Scope}
    {own : List (Str × Nat)} {vs1 : List Nat} {pos pos' : Pos} {wi wi1 : TI} {g g1 : TG} {tk tv : TE} {use : Option (Value → Sem Unit)} {Qf : Value → Shared → Prop}
    (hu : X.A.units < cLine) (hc : X.calm = true) (hN : X.N.Nodup) (I : Inv X pins σ H s) (hi : PI X tg iter wi)
    (ok : BlkOk X.N X.env.scope scope own) (hv : ∀ i ∈ vs1, i ∈ own.map (·.2))
    (hg : ∀ s H C cl fp, PG (blkC X scope s H C cl fp) tg g)
    (hi1 : ∀ s H C cl fp, PI (blkC X scope s H C cl fp) tg1 iter1 wi1)
    (hg1 : ∀ s H C cl fp, PG (blkC X scope s H C cl fp) tg1 g1)
    (hk : ∀ s H C cl fp, PE (blkC X scope s H C cl fp) kx tk)
    (he : ∀ s H C cl fp, PE (blkC X scope s H C cl fp) vx tv)
    (hs : ∀ x, foldedSetIterable iter X.env x = pure x) (hs1 : ∀ env x, foldedSetIterable iter1 env x = pure x)
    (h : tDcT2 wi g wi1 g1 tk tv (own.map (·.2)) vs1 σ H Q)
    (hRR : ∀ D C s' m H', Inv X pins σ H' s' → Q (.ref D) H' → s'.heap.Ns C m → FpOk X pins H' C →
      compPost (model X.prog X.w) X.A X.xe use Qf (.ref D) C (.ok .next) s') :
    wpAny (model X.prog X.w) X.A
      (comprehension (dc2 kx vx tg iter tg1 iter1 scope pos) scope X.env pos' newDict false (eval iter X.env) use) Qf X.xe s := by
  have free' : ∀ y ∈ scope.names, y.2 = .free → ∃ c, X.env.cells.lookup y.1 = some c := fun y hy e =>
    (ok.free y hy e).elim (fun k => I.ok.has _ (.inl k)) fun k => I.ok.has _ (.inr k)
  refine wpAny_comprehension_free (use := use) rfl hs (closure_ok free') ok.kind (fun y hy e => by rw [ok.uniq y hy, e]) ?_
  refine thn (hi.run pins s σ H _ I h) fun xv s1 hx => thn hx fun itv s2 h2 => ?_
  obtain ⟨it, fp, tn, J, H2, rfl, I2, T, st2, f2, q⟩ := h2
  refine wpAny_newObj_type (newEnv_comp ?_)
  generalize hD : s2.heap.objs.size = D
  obtain ⟨W, ⟨m0, w0⟩, turn⟩ := q D (I2.hok.fresh (Nat.le_of_eq hD))
  generalize hs3 : ({ s2 with heap := s2.heap.push { cls := .type "dict", data := .dict #[] } } : Shared) = s3
  have hp3 : s3.heap = s2.heap.push { cls := .type "dict", data := .dict #[] } := hs3 ▸ rfl
  have I3 : Inv X pins σ (upd H2 D (.dT [])) s3 := by
    subst hs3 hD
    exact I2.laid (t' := s2.toks) (fun b o e => Heap.get?_push_of_some _ e) (Nat.le_refl _) (dt_empty s2.heap I2.big)
  have below : ∀ b ∈ fp, b < s2.heap.objs.size := fun b hb =>
    let ⟨o, e, _⟩ := T.obj _ _ st2 b hb
    Heap.lt_size e
  have f3 : ∀ b ∈ fp, FpOk X pins (upd H2 D (.dT [])) b ∧ b < s3.heap.objs.size := fun b hb => by
    refine ⟨⟨?_, (f2 b hb).2⟩, by rw [hp3, Heap.size_push]; exact Nat.lt_succ_of_lt (below b hb)⟩
    rw [upd_ne (hD ▸ Nat.ne_of_lt (below b hb))]; exact (f2 b hb).1
  have st3 : tn 0 s3.heap := T.keep _ _ _ st2 fun b _ o e => by rw [hp3]; exact Heap.get?_push_of_some _ e
  have I4 := block_start I3 ok hN f3
  have pg := hg s3 (upd H2 D (.dT [])) s3.heap.objs.size (cellsFrom (s3.heap.objs.size + 1) scope.names (cloFrom X.env.cells scope.names [])) fp
  have pi1 := hi1 s3 (upd H2 D (.dT [])) s3.heap.objs.size (cellsFrom (s3.heap.objs.size + 1) scope.names (cloFrom X.env.cells scope.names [])) fp
  have pg1 := hg1 s3 (upd H2 D (.dT [])) s3.heap.objs.size (cellsFrom (s3.heap.objs.size + 1) scope.names (cloFrom X.env.cells scope.names [])) fp
  have pk := hk s3 (upd H2 D (.dT [])) s3.heap.objs.size (cellsFrom (s3.heap.objs.size + 1) scope.names (cloFrom X.env.cells scope.names [])) fp
  have pe := he s3 (upd H2 D (.dT [])) s3.heap.objs.size (cellsFrom (s3.heap.objs.size + 1) scope.names (cloFrom X.env.cells scope.names [])) fp
  have nfp : ∀ b ∈ fp, (upd H2 D (.dT [])) b = none := fun b hb => (f3 b hb).1.1
  show codeAny _ _ (.compStart _ 0 (.ref it) (.ref D) (compEnvC scope (cellsFrom (s3.heap.objs.size + 1) scope.names (cloFrom X.env.cells scope.names [])) s3.heap.objs.size X.env)) _ { s3 with heap := pushCells (s3.heap.push { cls := .type "dict", data := .dict #[] }) scope.names }
  unfold blkC at pg pi1 pg1 pk pe
  generalize hce : compEnvC scope (cellsFrom (s3.heap.objs.size + 1) scope.names (cloFrom X.env.cells scope.names [])) s3.heap.objs.size X.env = ce at I4 pg pi1 pg1 pk pe ⊢
  have cL : ce.locals = s3.heap.objs.size := hce ▸ rfl
  generalize hH3 : upd H2 D (.dT []) = H3 at I3 I4 pg pi1 pg1 pk pe w0 nfp f3
  generalize hs4 : ({ s3 with heap := pushCells (s3.heap.push { cls := .type "dict", data := .dict #[] }) scope.names } : Shared) = s4 at I4 ⊢
  have st4 : tn 0 s4.heap := T.keep _ _ _ st3 fun b _ o e => hs4 ▸ pushCells_keeps _ _ _ _ (Heap.get?_push_of_some _ e)
  have stat : ∀ {σ' : St} {H' : Hp} {s' : Shared}, Inv (X.blk s3 H3 scope ce fp) [] σ' H' s' → (∀ b ∈ fp, H' b = none) → ∀ b ∈ fp, FpOk (X.blk s3 H3 scope ce fp) [] H' b := fun I' hn b hb =>
    ⟨hn b hb, (I'.ok.exf b hb).1, I'.ok.exfs b hb, .inl hb, fun x c e => (I'.ok.exf b hb).2 x c e, fun p hp => absurd hp (by simp)⟩
  have loop : codeAny (model X.prog X.w) X.A (.compLoop (dc2 kx vx tg iter tg1 iter1 scope pos) 0 (.ref it) (.ref D) ce)
      (compPost (model X.prog X.w) X.A X.xe use Qf (.ref D) s3.heap.objs.size) s4 := by
    refine dc2_outer (hs1 ce) (fun n s' => ∃ i H', Inv (X.blk s3 H3 scope ce fp) [] (wipe σ (own.map (·.2))) H' s' ∧ tn i s'.heap ∧ (∀ b ∈ fp, H' b = none) ∧ W i n H') ?_ m0 ⟨0, H3, I4, st4, nfp, w0⟩
    rintro n s5 ⟨i, H5, I5, st5, n5, w5⟩
    rcases turn i n H5 w5 with ⟨stop, qq⟩ | ⟨go, Nx, hNx, step⟩
    · refine thnF (T.done (X.blk s3 H3 scope ce fp) rfl rfl rfl hc i [] s5 _ H5 (fun _ _ => False) I5 (stat I5 n5) st5 stop) fun r s6 ⟨hr, I6⟩ => ?_
      subst hr
      have I7 : Inv X pins σ H5 s6 := I3.call' (ch := fp) I6.os I6.base I6.hok I6.bare fun b hb =>
        let z := (f3 b hb).1
        ⟨z.2.2.2.1, z.2.1, z.2.2.2.2.1, z.2.2.2.2.2⟩
      have nC : H5 s3.heap.objs.size = none := cL ▸ (I6.free : H5 ce.locals = none)
      obtain ⟨m, hn, _⟩ := I6.loc
      have hn : s6.heap.Ns s3.heap.objs.size m := cL ▸ (hn : s6.heap.Ns ce.locals m)
      exact hRR D _ s6 m H5 I7 qq hn (I3.fpOk (Nat.le_refl _) nC)
    · refine thnF (T.item (X.blk s3 H3 scope ce fp) rfl rfl rfl hc i [] s5 _ H5 (fun _ _ => False) I5 (stat I5 n5) st5 go) fun r s6 ⟨u, hr, h6⟩ => ?_
      subst hr
      refine thnF h6 fun _ s7 ⟨x, H7, I7, r7, y7, st7, n7⟩ => ?_
      have I7' := I7.pinned (stat I7 n7) (T.obj _ _ st7)
      refine thnF (pg.run _ s7 _ H7 x u _ I7' r7 (step x H7 y7)) fun _ s8 ⟨σ8, H8, I8, hw8, q8⟩ => ?_
      -- the end of a turn of the first loop
      have fin : ∀ {σ9 : St} {s' : Shared} {H' : Hp}, Inv (X.blk s3 H3 scope ce fp) ([] ++ pinsAt fp s7.heap) σ9 H' s' → (wipe σ (own.map (·.2))).length = σ9.length →
          (∀ (j : Nat) v, (wipe σ (own.map (·.2)))[j]? = some (some v) → σ9[j]? = some (some v)) → Nx H' →
          ∃ m, m < n ∧ ∃ i H', Inv (X.blk s3 H3 scope ce fp) [] (wipe σ (own.map (·.2))) H' s' ∧ tn i s'.heap ∧ (∀ b ∈ fp, H' b = none) ∧ W i m H' := fun {σ9 s' H'} I' hl hkn nx => by
        obtain ⟨m', hm, w'⟩ := hNx H' nx
        have pin' : ∀ b ∈ fp, ∀ o, s7.heap.get? b = some o → s'.heap.get? b = some o ∧ H' b = none := fun b hb o e =>
          let z := I'.pin (b, o) (List.mem_append_right _ (List.mem_append_right _ (mem_pinsAt hb e)))
          ⟨z.1, z.2.1⟩
        refine ⟨m', hm, i + 1, H', (I'.unpinned (pins := [])).weak hl hkn, T.keep _ _ _ st7 fun b hb o e => (pin' b hb o e).1, fun b hb => ?_, w'⟩
        obtain ⟨o, e, _⟩ := T.obj _ _ st7 b hb
        exact (pin' b hb o e).2
      have hl8 : (wipe σ (own.map (·.2))).length = σ8.length := by rw [← hw8, wipe_length]
      have hk9 : ∀ (j : Nat) v, (wipe σ (own.map (·.2)))[j]? = some (some v) → (wipe σ8 vs1)[j]? = some (some v) := fun j v e => by
        obtain ⟨e1, e2⟩ := wipe_some (hw8 ▸ e)
        rw [wipe_out fun z => e2 (hv j z)]; exact e1
      refine thnF (pi1.run _ s8 σ8 H8 _ I8 q8) fun xv s10 hx => thnF hx fun itv s11 h11 => ?_
      obtain ⟨it1, fp1, tn1, J1, H11, rfl, I11, T1, st11, f11, W1, ⟨m1, w1⟩, turn1⟩ := h11
      have stat1 : ∀ {H' : Hp}, (∀ b ∈ fp1, H' b = none) → ∀ b ∈ fp1, FpOk (X.blk s3 H3 scope ce fp) ([] ++ pinsAt fp s7.heap) H' b := fun hn b hb => ⟨hn b hb, (f11 b hb).2⟩
      have loop1 : codeAny (model X.prog X.w) X.A (.compLoop (dc2 kx vx tg iter tg1 iter1 scope pos) 1 (.ref it1) (.ref D) ce)
          (fun r s' => match r with
            | .ok _ => ∃ m, m < n ∧ ∃ i H', Inv (X.blk s3 H3 scope ce fp) [] (wipe σ (own.map (·.2))) H' s' ∧ tn i s'.heap ∧ (∀ b ∈ fp, H' b = none) ∧ W i m H'
            | .error _ => False) s11 := by
        refine dc2_inner (fun k s' => ∃ j H', Inv (X.blk s3 H3 scope ce fp) ([] ++ pinsAt fp s7.heap) (wipe σ8 vs1) H' s' ∧ tn1 j s'.heap ∧ (∀ b ∈ fp1, H' b = none) ∧ W1 j k H') ?_ m1
          ⟨0, H11, I11.weak (wipe_length _ _) (fun j v e => (wipe_some e).1), st11, fun b hb => (f11 b hb).1, w1⟩
        rintro k s12 ⟨j, H12, I12, st12, n12, w12⟩
        rcases turn1 j k H12 w12 with ⟨stop1, nx1⟩ | ⟨go1, Nx1, hNx1, step1⟩
        · refine thnF (T1.done (X.blk s3 H3 scope ce fp) rfl rfl rfl hc j _ s12 (wipe σ8 vs1) H12 (fun _ _ => False) I12 (stat1 n12) st12 stop1) fun r s13 ⟨hr, I13⟩ => ?_
          subst hr
          exact fin I13 (hl8.trans (wipe_length σ8 vs1).symm) hk9 nx1
        · refine thnF (T1.item (X.blk s3 H3 scope ce fp) rfl rfl rfl hc j _ s12 (wipe σ8 vs1) H12 (fun _ _ => False) I12 (stat1 n12) st12 go1) fun r s13 ⟨u1, hr, h13⟩ => ?_
          subst hr
          refine thnF h13 fun _ s14 ⟨x1, H14, I14, r14, y14, st14, n14⟩ => ?_
          have I14' := I14.pinned (stat1 n14) (T1.obj _ _ st14)
          refine thnF (pg1.run _ s14 (wipe σ8 vs1) H14 x1 u1 _ I14' r14 (step1 x1 H14 y14)) fun _ s15 ⟨σ15, H15, I15, hw15, q15⟩ => ?_
          refine thnF (pk.run _ s15 σ15 H15 _ I15 q15) fun z s16 ⟨yk, H16, I16, r16, q16⟩ => ?_
          refine thnF (pe.run _ s16 σ15 H16 _ I16 q16) fun z2 s17 ⟨yv, H17, I17, r17, kvs, ks, b, ek, hb17, hD17, hz17, nx⟩ => ?_
          subst ek
          obtain rfl : z = Value.ref b := r16
          refine dset_tup (X := X.blk s3 H3 scope ce fp) hu I17 hD17 hb17 hz17 r17 fun s18 I18 => ?_
          obtain ⟨m', hm, w'⟩ := hNx1 _ nx
          have pin' : ∀ b ∈ fp1, ∀ o, s14.heap.get? b = some o → s18.heap.get? b = some o ∧ (upd H17 D (.dT (putK kvs ks yv))) b = none := fun b hb o e =>
            let z := I18.pin (b, o) (List.mem_append_right _ (List.mem_append_right _ (mem_pinsAt hb e)))
            ⟨z.1, z.2.1⟩
          refine ⟨m', hm, j + 1, _, I18.unpinned.weak (by rw [← hw15, wipe_length]) (fun j v e => (wipe_some (hw15 ▸ e)).1), T1.keep _ _ _ st14 fun b hb o e => (pin' b hb o e).1, fun b hb => ?_, w'⟩
          obtain ⟨o, e, _⟩ := T1.obj _ _ st14 b hb
          exact (pin' b hb o e).2
      exact dc2_start1 loop1 (T1.self X.A 0 _ _ _ st11 loop1)
  exact codeAny_compStart_dict loop (T.self X.A 0 _ _ _ st4 loop)
/-- as a value -/
theorem pe_dcT2 {kx vx tg iter tg1 iter1 : Expr} {scope : Scope} {own : List (Str × Nat)} {vs1 : List Nat} {pos : Pos} {wi wi1 : TI} {g g1 : TG} {tk tv : TE}
    (hu : X.A.units < cLine) (hc : X.calm = true) (hN : X.N.Nodup) (hi : PI X tg iter wi) (ok : BlkOk X.N X.env.scope scope own) (hv : ∀ i ∈ vs1, i ∈ own.map (·.2))
    (hg : ∀ s H C cl fp, PG (blkC X scope s H C cl fp) tg g)
    (hi1 : ∀ s H C cl fp, PI (blkC X scope s H C cl fp) tg1 iter1 wi1)
    (hg1 : ∀ s H C cl fp, PG (blkC X scope s H C cl fp) tg1 g1)
    (hk : ∀ s H C cl fp, PE (blkC X scope s H C cl fp) kx tk)
    (he : ∀ s H C cl fp, PE (blkC X scope s H C cl fp) vx tv)
    (hs : ∀ x, foldedSetIterable iter X.env x = pure x := by intro _; rfl) (hs1 : ∀ env x, foldedSetIterable iter1 env x = pure x := by intro _ _; rfl) :
    PE X (.DictComp kx vx [⟨tg, iter, [], 0⟩, ⟨tg1, iter1, [], 0⟩] scope pos) (tDcT2 wi g wi1 g1 tk tv (own.map (·.2)) vs1) := by
  refine ⟨fun pins s σ H Q I h => ?_⟩
  rw [arm_eval_DictComp]
  refine dcT2_core hu hc hN I hi ok hv hg hi1 hg1 hk he hs hs1 h fun D C s' m H' I' q hn f => ⟨m, hn, fun h'' sb => ?_⟩
  obtain ⟨f0, f1, _, f3, f4, f5⟩ := f
  exact ⟨.ref D, H', I'.turned (t' := s'.toks) (fun b o hb e => (sb.2 b hb).trans e) f0 f1 f3 f4 f5, rfl, q⟩
end

/-! ### min(xs, default=d) of whole numbers -/
def rMinD (K : PySem.W.Frag) : List V → List V → Hp → VK → Prop := fun xs zs H Q => ∃ (a : Addr) (ns : List Int) (d : V), xs = [.ref a] ∧ zs = [d] ∧ SqL K H a (ns.map V.int) ∧
  (ns = [] → Q d H) ∧ ∀ m, m ∈ ns → (∀ n ∈ ns, m ≤ n) → Q (.int m) H
theorem ints_read {h : Heap} : ∀ {ns : List Int} {us : List Value}, Vals (ns.map V.int) us → ReadsAll h us (ns.map .int) []
  | [], _, r => by cases r; exact .nil
  | n :: ns, _, r => by
    cases r with
    | cons q t => obtain ⟨tk, rfl⟩ := q; exact .cons (as := []) (.int _ _) (ints_read t)
theorem fold_min : ∀ (ns : List Int) (n : Int), (ns.foldl min n = n ∨ ns.foldl min n ∈ ns) ∧ ns.foldl min n ≤ n ∧ ∀ m ∈ ns, ns.foldl min n ≤ m
  | [], n => ⟨.inl rfl, Int.le_refl _, fun _ h => nomatch h⟩
  | a :: r, n => by
    obtain ⟨h1, h2, h3⟩ := fold_min r (min n a)
    rw [List.foldl_cons]
    refine ⟨?_, by omega, fun m hm => ?_⟩
    · rcases h1 with h1 | h1
      · rw [h1]
        by_cases c : n ≤ a
        · left; omega
        · right; rw [show min n a = a by omega]; exact List.mem_cons_self
      · exact .inr (List.mem_cons_of_mem _ h1)
    · rcases List.mem_cons.mp hm with rfl | hm
      · omega
      · exact h3 m hm
section
variable {X : Cx}
theorem cr_minD (hc : X.calm = true) (hu : X.A.units + 1 < cLine) : CallRK X (.builtin "min") [Str.ofString "default"] (rMinD X.K) := by
  intro pins s σ H xs zs us ws Q I rx rz h
  obtain ⟨a, ns, d, rfl, rfl, hs, q0, q1⟩ := h
  obtain ⟨its, rv, hl, _⟩ := I.list hs
  rw [Vals.ref1 rx]
  cases rz with
  | cons rd rn =>
    cases rn
    have al : PySem.W.AlikeAll (ns.map PyData.int) := ⟨fun x hx y hy => by
        obtain ⟨i, _, rfl⟩ := List.mem_map.mp hx
        obtain ⟨j, _, rfl⟩ := List.mem_map.mp hy
        rfl, fun x hx e => by
        obtain ⟨i, _, rfl⟩ := List.mem_map.mp hx
        cases e⟩
    refine PySem.W.min_list_default (xs := ns.map PyData.int) (as := []) (I.ok.hd hc) hl.isList (by simpa using ints_read rv) al
      (by rw [PyProof.Rows.depthAll_ints]; exact hu) (fun e h' tk k => ?_) fun y ys i v h' tk bs e hv hr k => ?_
    · have e' : ns = [] := by cases ns with
        | nil => rfl
        | cons _ _ => cases e
      exact ⟨d, H, I.kept k, rd, q0 e'⟩
    · cases ns with
      | nil => cases e
      | cons n r =>
        rw [List.map_cons] at e
        injection e with e1 e2
        subst e1 e2
        rw [PySem.W.minD_ints] at hr
        cases hr with
        | int m t =>
          obtain ⟨f1, f2, f3⟩ := fold_min r n
          refine ⟨.int _, H, I.kept k, ⟨_, rfl⟩, q1 _ ?_ fun m hm => ?_⟩
          · rcases f1 with f1 | f1
            · rw [f1]; exact List.mem_cons_self
            · exact List.mem_cons_of_mem _ f1
          · rcases List.mem_cons.mp hm with rfl | hm
            · exact f2
            · exact f3 m hm
end
end L2.FL
/-! Data in the abstract heap: the heap without an address, places, rows, maps as pairs. -/
namespace L2.FK
open PySem PySem.Spec PyProof.Rows L2.FL
abbrev Pl := Int × Int
/-- the heap without what stands at D -/
def del (D : Addr) (H : Hp) : Hp := fun b => if b = D then none else H b
theorem del_at {D : Addr} {H : Hp} : del D H D = none := if_pos rfl
theorem del_ne {D b : Addr} {H : Hp} (h : b ≠ D) : del D H b = H b := if_neg h
theorem of_del {D b : Addr} {H : Hp} {o : HO} (h : del D H b = some o) : H b = some o ∧ b ≠ D := by
  unfold del at h
  split at h
  · cases h
  · exact ⟨h, by assumption⟩
theorem del_upd {D : Addr} {H : Hp} {o : HO} : del D (upd H D o) = del D H := by
  funext b; unfold del upd; split <;> rfl
theorem del_upd_ne {D p : Addr} {H : Hp} {o : HO} (h : p ≠ D) : del D (upd H p o) = upd (del D H) p o := by
  funext b
  by_cases e : b = D
  · subst e; rw [del_at, upd_ne (Ne.symm h), del_at]
  · rw [del_ne e]
    by_cases e' : b = p
    · subst e'; rw [upd_same, upd_same]
    · rw [upd_ne e', upd_ne e', del_ne e]
theorem del_same {D : Addr} {H : Hp} : Same (del D H) H := fun _ _ h => (of_del h).1
theorem same_del {D : Addr} {H H' : Hp} (s : Same H H') (h : H D = none) : Same H (del D H') := fun b o e => by
  rw [del_ne (ne_of_none e h)]; exact s b o e
theorem same_dels {D : Addr} {H H' : Hp} (s : Same H H') : Same (del D H) (del D H') := fun b o e => by
  obtain ⟨e1, e2⟩ := of_del e
  rw [del_ne e2]; exact s b o e1
theorem same_new {H : Hp} {p : Addr} (h : H p = none) (o : HO) : Same H (upd H p o) := fun b u q => by rw [upd_ne (ne_of_none q h)]; exact q
theorem same_put {H H' : Hp} {p : Addr} (s : Same H H') (h : H p = none) (o : HO) : Same H (upd H' p o) := fun b u q => by rw [upd_ne (ne_of_none q h)]; exact s b u q
theorem none_del {D b : Addr} {H : Hp} (h : H b = none) : del D H b = none := by
  unfold del; split
  · rfl
  · exact h
theorem paired_mono {α β : Type} {F G : α → β → Prop} {l : List α} {m : List β} (h : Paired F l m) (f : ∀ a b, F a b → G a b) : Paired G l m := Paired.mapP h f
theorem paired_len {α β : Type} {F : α → β → Prop} {l : List α} {m : List β} (h : Paired F l m) : l.length = m.length := Paired.length h
theorem paired_get {α β : Type} {F : α → β → Prop} : ∀ {l : List α} {m : List β}, Paired F l m → ∀ (i : Nat) {x : α}, l[i]? = some x → ∃ y, m[i]? = some y ∧ F x y
  | _, _, .nil, i, x, e => by simp at e
  | _, _, .cons r t, 0, x, e => by simp at e; subst e; exact ⟨_, rfl, r⟩
  | _, _, .cons r t, i + 1, x, e => by simpa using paired_get t i (by simpa using e)
theorem paired_get' {α β : Type} {F : α → β → Prop} : ∀ {l : List α} {m : List β}, Paired F l m → ∀ (i : Nat) {y : β}, m[i]? = some y → ∃ x, l[i]? = some x ∧ F x y
  | _, _, .nil, i, x, e => by simp at e
  | _, _, .cons r t, 0, x, e => by simp at e; subst e; exact ⟨_, rfl, r⟩
  | _, _, .cons r t, i + 1, x, e => by simpa using paired_get' t i (by simpa using e)
theorem paired_app {α β : Type} {F : α → β → Prop} : ∀ {l l' : List α} {m m' : List β}, Paired F l m → Paired F l' m' → Paired F (l ++ l') (m ++ m')
  | _, _, _, _, .nil, s => s
  | _, _, _, _, .cons r t, s => .cons r (paired_app t s)
theorem paired_snoc {α β : Type} {F : α → β → Prop} {l : List α} {m : List β} {x : α} {y : β} (h : Paired F l m) (r : F x y) : Paired F (l ++ [x]) (m ++ [y]) := paired_app h (.cons r .nil)
theorem paired_take {α β : Type} {F : α → β → Prop} : ∀ {l : List α} {m : List β} (n : Nat), Paired F l m → Paired F (l.take n) (m.take n)
  | _, _, 0, _ => .nil
  | _, _, _ + 1, .nil => .nil
  | _, _, n + 1, .cons r t => .cons r (paired_take n t)
theorem paired_set {α β : Type} {F : α → β → Prop} : ∀ {l : List α} {m : List β} (n : Nat) {x : α} {y : β}, Paired F l m → F x y → Paired F (l.set n x) (m.set n y)
  | _, _, _, _, _, .nil, _ => .nil
  | _, _, 0, _, _, .cons _ t, r => .cons r t
  | _, _, n + 1, _, _, .cons q t, r => .cons q (paired_set n t r)
theorem paired_erase {α β : Type} {F : α → β → Prop} : ∀ {l : List α} {m : List β} (n : Nat), Paired F l m → Paired F (l.eraseIdx n) (m.eraseIdx n)
  | _, _, _, .nil => .nil
  | _, _, 0, .cons _ t => t
  | _, _, n + 1, .cons q t => .cons q (paired_erase n t)
theorem take_snoc {α : Type} {l : List α} {i : Nat} {x : α} (h : l[i]? = some x) : l.take (i + 1) = l.take i ++ [x] := by
  rw [List.take_add_one, h]; rfl
theorem snoc_le {n : Nat} (h : n ≤ 100000) : n < sizeLine := Nat.lt_of_le_of_lt h (by decide)
theorem le_line {n : Nat} (h : n ≤ 100000) : n ≤ sizeLine := Nat.le_of_lt (snoc_le h)
/-! ### places, rows, lists of rows -/
/-- a place at v -/
def PlAt (H : Hp) (v : V) (p : Pl) : Prop := ∃ t, v = .ref t ∧ H t = some (.tup [.int p.1, .int p.2])
/-- a list of ints at v -/
def IntsAt (H : Hp) (v : V) (ns : List Int) : Prop := ∃ a, v = .ref a ∧ H a = some (.lst (ns.map V.int))
def RowAt (H : Hp) (v : V) (row : List Pl) : Prop := ∃ a vs, v = .ref a ∧ H a = some (.lst vs) ∧ Paired (PlAt H) vs row
def RowsAt (H : Hp) (v : V) (rows : List (List Pl)) : Prop := ∃ a vs, v = .ref a ∧ H a = some (.lst vs) ∧ Paired (RowAt H) vs rows
/-- a map as the pair of its drifts and goals -/
def DAt (H : Hp) (v : V) (ds : List Int) (rows : List (List Pl)) : Prop := ∃ t v1 v2, v = .ref t ∧ H t = some (.tup [v1, v2]) ∧ IntsAt H v1 ds ∧ RowsAt H v2 rows
section
variable {H H' : Hp} {v : V}
theorem PlAt.mono {p : Pl} (s : Same H H') (h : PlAt H v p) : PlAt H' v p := let ⟨t, e, q⟩ := h; ⟨t, e, s _ _ q⟩
theorem IntsAt.mono {ns : List Int} (s : Same H H') (h : IntsAt H v ns) : IntsAt H' v ns := let ⟨t, e, q⟩ := h; ⟨t, e, s _ _ q⟩
theorem RowAt.mono {row : List Pl} (s : Same H H') (h : RowAt H v row) : RowAt H' v row := let ⟨a, vs, e, q, r⟩ := h; ⟨a, vs, e, s _ _ q, paired_mono r fun _ _ z => z.mono s⟩
theorem RowsAt.mono {rows : List (List Pl)} (s : Same H H') (h : RowsAt H v rows) : RowsAt H' v rows := let ⟨a, vs, e, q, r⟩ := h; ⟨a, vs, e, s _ _ q, paired_mono r fun _ _ z => z.mono s⟩
theorem DAt.mono {ds : List Int} {rows : List (List Pl)} (s : Same H H') (h : DAt H v ds rows) : DAt H' v ds rows := let ⟨t, v1, v2, e, q, r1, r2⟩ := h; ⟨t, v1, v2, e, s _ _ q, r1.mono s, r2.mono s⟩
theorem pls_mono {vs : List V} {row : List Pl} (s : Same H H') (h : Paired (PlAt H) vs row) : Paired (PlAt H') vs row := paired_mono h fun _ _ z => z.mono s
theorem rows_mono {vs : List V} {rows : List (List Pl)} (s : Same H H') (h : Paired (RowAt H) vs rows) : Paired (RowAt H') vs rows := paired_mono h fun _ _ z => z.mono s
end
/-! ### what is not at D -/
section
variable {H : Hp} {D : Addr} {o : HO} {v : V}
theorem del_of {b : Addr} {o' : HO} (hD : H D = some o) (h : H b = some o') (n : o' ≠ o) : del D H b = some o' := by rw [del_ne (ne_of h hD n)]; exact h
theorem PlAt.del {p : Pl} (hD : H D = some o) (nt : ∀ xs, HO.tup xs ≠ o) (h : PlAt H v p) : PlAt (del D H) v p := let ⟨t, e, q⟩ := h; ⟨t, e, del_of hD q (nt _)⟩
theorem pls_del {vs : List V} {row : List Pl} (hD : H D = some o) (nt : ∀ xs, HO.tup xs ≠ o) (h : Paired (PlAt H) vs row) : Paired (PlAt (FK.del D H)) vs row := paired_mono h fun _ _ z => z.del hD nt
theorem RowAt.del {row : List Pl} (hD : H D = some o) (nt : ∀ xs, HO.tup xs ≠ o) (nl : ∀ xs, HO.lst xs ≠ o) (h : RowAt H v row) : RowAt (FK.del D H) v row := let ⟨a, vs, e, q, r⟩ := h; ⟨a, vs, e, del_of hD q (nl _), pls_del hD nt r⟩
theorem RowsAt.del {rows : List (List Pl)} (hD : H D = some o) (nt : ∀ xs, HO.tup xs ≠ o) (nl : ∀ xs, HO.lst xs ≠ o) (h : RowsAt H v rows) : RowsAt (FK.del D H) v rows := let ⟨a, vs, e, q, r⟩ := h; ⟨a, vs, e, del_of hD q (nl _), paired_mono r fun _ _ z => z.del hD nt nl⟩
/-- a row whose list is another one -/
theorem RowAt.delN {row : List Pl} {b : Addr} (hD : H D = some o) (nt : ∀ xs, HO.tup xs ≠ o) (hb : b ≠ D) (h : RowAt H (.ref b) row) : RowAt (FK.del D H) (.ref b) row := by
  obtain ⟨a, vs, e, q, r⟩ := h
  cases e
  exact ⟨b, vs, rfl, by rw [del_ne hb]; exact q, pls_del hD nt r⟩
theorem del_del {D D' : Addr} {H : Hp} : del D (del D' H) = del D' (del D H) := by
  funext b; unfold FK.del; split <;> split <;> rfl
end
/-! ### the built-ins -/
theorem bt_len : bootBuiltins "len" = some (.builtin "len") := by decide +kernel
theorem bt_sum : bootBuiltins "sum" = some (.builtin "sum") := by decide +kernel
theorem bt_max : bootBuiltins "max" = some (.builtin "max") := by decide +kernel
theorem bt_min : bootBuiltins "min" = some (.builtin "min") := by decide +kernel
theorem bt_isinstance : bootBuiltins "isinstance" = some (.builtin "isinstance") := by decide +kernel
theorem bt_all : bootBuiltins "all" = some (.builtin "all") := by decide +kernel
theorem bt_any : bootBuiltins "any" = some (.builtin "any") := by decide +kernel
theorem bt_sorted : bootBuiltins "sorted" = some (.builtin "sorted") := by decide +kernel
theorem bt_repr : bootBuiltins "repr" = some (.builtin "repr") := by decide +kernel
theorem bt_list : bootBuiltins "list" = some (.type "list") := by decide +kernel
theorem bt_tuple : bootBuiltins "tuple" = some (.type "tuple") := by decide +kernel
theorem bt_range : bootBuiltins "range" = some (.type "range") := by decide +kernel
theorem bt_enumerate : bootBuiltins "enumerate" = some (.type "enumerate") := by decide +kernel
theorem bt_zip : bootBuiltins "zip" = some (.type "zip") := by decide +kernel
theorem bt_int : bootBuiltins "int" = some (.type "int") := by decide +kernel
theorem bt_bool : bootBuiltins "bool" = some (.type "bool") := by decide +kernel
theorem bt_str : bootBuiltins "str" = some (.type "str") := by decide +kernel
/-! ### rules with the written part named (for use inside comprehensions) -/
section
variable {X : Cx}
theorem c_list (K : PySem.W.Frag) (h : X.K = K := by rfl) : CallR X (.type "list") (fun xs H Q => ∃ p ys, xs = [V.ref p] ∧ (SqL K H p ys ∨ SqT K H p ys) ∧ ∀ l, H l = none → Q (V.ref l) (upd H l (.lst ys))) := by
  subst h; exact call_list_of
theorem c_len (K : PySem.W.Frag) (h : X.K = K := by rfl) : CallR X (.builtin "len") (fun xs H Q => ∃ p ys, xs = [.ref p] ∧ (SqL K H p ys ∨ SqT K H p ys) ∧ Q (.int ys.length) H) := by
  subst h; exact call_len_seq
theorem x_list (K : PySem.W.Frag) (h : X.K = K := by rfl) : IxR X (rIxL K) := by subst h; exact ix_list
theorem x_tup (K : PySem.W.Frag) (h : X.K = K := by rfl) : IxR X (rIxT K) := by subst h; exact ix_tup
theorem g_tup (K : PySem.W.Frag) {pos : Pos} {es : List Expr} {k : Nat} {t : TGs} {n : Nat} (h : X.K = K := by rfl) (hc : X.calm = true := by rfl) (hp : PGs X es t)
    (hn : (assignEach es X.env).length = n := by rfl) (hst : (assignEach es X.env).findIdx? (·.1) = none := by rfl) : PG X (.Tuple es k pos) (gTup K n t) := by subst h; exact pg_tup hc hp hn hst
theorem n_enum (K : PySem.W.Frag) {e : Expr} {ta : TA} {p pos tpos : Pos} {elts : List Expr} {kk : Nat} (hg : Gl X "enumerate") (hm : X.mg "enumerate" = none) (ha : PA X [e] ta) (hs : starEach [e] X.env = [(false, eval e X.env)] := by rfl) (h : X.K = K := by rfl) :
    PI X (.Tuple elts kk tpos) (.Call (.Name "enumerate" p) [e] [] pos) (iEnum K ta) := by subst h; exact pi_enum hg hm ha hs
theorem n_list (K : PySem.W.Frag) {tg l : Expr} {tl : TE} (hl : PE X l tl) (h : X.K = K := by rfl) : PI X tg l (iList K tl) := by subst h; exact pi_list hl
theorem n_tup (K : PySem.W.Frag) {tg l : Expr} {tl : TE} (hl : PE X l tl) (h : X.K = K := by rfl) : PI X tg l (iTup K tl) := by subst h; exact pi_tup hl
end
theorem e_fld (K : PySem.W.Frag) {X : Cx} {e : Expr} {f : Str} {pos : Pos} {ta : TE} (he : PE X e ta) (hb : attributeBase e f X.env (eval e X.env) = eval e X.env := by rfl) (h : X.K = K := by rfl) : PE X (.Attribute e f pos) (tFld K ta f) := by
  subst h; exact pe_fld he hb
/-! ### places compared -/
theorem dp_pl {K : PySem.W.Frag} {H : Hp} {v : V} {p : Pl} (h : PlAt H v p) : Dp K H v (.tuple [.int p.1, .int p.2]) := by
  obtain ⟨t, rfl, ht⟩ := h
  exact .tup (.inl (.inl ht)) (.cons (.int _) (.cons (.int _) .nil))
theorem eqv_pl (p q : Pl) : PyData.eqv (.tuple [.int p.1, .int p.2]) (.tuple [.int q.1, .int q.2]) = decide (p = q) := by
  obtain ⟨a, b⟩ := p
  obtain ⟨c, d⟩ := q
  simp only [PyData.eqv, PyData.eqvAll, Bool.and_true, Prod.mk.injEq]
  by_cases h1 : a = c <;> by_cases h2 : b = d <;> simp [h1, h2]
theorem shaped_pl (p : Pl) : SeqAt.shaped (.tuple [.int p.1, .int p.2]) = true := rfl
/-! ### the goals without those at the end that the drift gives -/
def trimLen (l d : Int) (row : List Pl) : Nat → Nat
  | 0 => 0
  | n + 1 => if row[n]? = some (l, (n : Int) + d) then trimLen l d row n else n + 1
def trimRow (l d : Int) (row : List Pl) : List Pl := row.take (trimLen l d row row.length)
theorem trimLen_le (l d : Int) (row : List Pl) : ∀ n, trimLen l d row n ≤ n
  | 0 => Nat.le_refl _
  | n + 1 => by
    unfold trimLen
    split
    · exact Nat.le_succ_of_le (trimLen_le l d row n)
    · exact Nat.le_refl _
theorem cutV_to (xs : List V) (n : Nat) (h : n ≤ xs.length) : cutV xs none (some (n : Int)) = xs.take n := by
  unfold cutV
  rw [HT.sIx_nat, HT.sIx_none, List.drop_zero, Nat.sub_zero, Nat.min_eq_left h]
end L2.FK
/-! Valid maps, and counts of goals by lane. -/
namespace L2.FK
open PySem PySem.Spec PyProof.Rows L2.FL
/-- drifts and goals (as long as the bounds or longer) that are a bijection -/
structure Okm (ds : List Int) (rows : List (List Pl)) : Prop where
  len : rows.length = ds.length
  lo : 1 ≤ ds.length
  hi : ds.length ≤ 6
  wid : rows.flatten.length ≤ 2000
  st : ∀ (i : Nat) row d, rows[i]? = some row → ds[i]? = some d → 0 ≤ (row.length : Int) + d
  mem : ∀ p : Pl, p ∈ rows.flatten ↔ ∃ (i : Nat) (row : List Pl) (d : Int), p.1 = i ∧ rows[i]? = some row ∧ ds[i]? = some d ∧ 0 ≤ p.2 ∧ p.2 < (row.length : Int) + d
  nd : rows.flatten.Nodup
/-- the dict of lane l behind the goals G -/
structure Cnt (kvs : List (Key × V)) (l : Int) (G : List Pl) : Prop where
  len : kvs.length ≤ G.length
  val : ∀ a : Int, valV kvs (Sum.inl a) = if G.count (l, a) = 0 then none else some (.int ((G.count (l, a) : Nat) : Int))
  key : ∀ kv ∈ kvs, ∃ a : Int, kv.1 = Sum.inl a ∧ (l, a) ∈ G
theorem Cnt.nil (l : Int) : Cnt [] l [] := ⟨Nat.le_refl _, fun a => by simp [valV_nil], fun kv h => nomatch h⟩
theorem Cnt.get {kvs : List (Key × V)} {l : Int} {G : List Pl} (c : Cnt kvs l G) (a : Int) : (valV kvs (Sum.inl a)).getD (.int 0) = .int ((G.count (l, a) : Nat) : Int) := by
  rw [c.val a]
  split
  · rename_i h; rw [h]; rfl
  · rfl
theorem mem_putK {kvs : List (Key × V)} {k : Key} {v : V} {p : Key × V} (h : p ∈ putK kvs k v) : p.1 = k ∨ ∃ q ∈ kvs, q.1 = p.1 := by
  unfold putK at h
  split at h
  · obtain ⟨q, hq, e⟩ := List.mem_map.mp h
    by_cases c : q.1 = k
    · rw [if_pos c] at e; left; rw [← e]; exact c
    · rw [if_neg c] at e; right; exact ⟨q, hq, by rw [e]⟩
  · rcases List.mem_append.mp h with h | h
    · exact .inr ⟨p, h, rfl⟩
    · left; rw [List.mem_singleton.mp h]
theorem Cnt.other {kvs : List (Key × V)} {l l' a' : Int} {G : List Pl} (c : Cnt kvs l G) (h : l ≠ l') : Cnt kvs l (G ++ [(l', a')]) := by
  have e : ∀ a, (G ++ [(l', a')]).count (l, a) = G.count (l, a) := fun a => by
    rw [List.count_append, List.count_singleton]
    have : ((l', a') == (l, a)) = false := by
      rw [beq_eq_false_iff_ne]; intro z; injection z with z1; exact h z1.symm
    rw [this]; rfl
  refine ⟨by rw [List.length_append]; have := c.len; omega, fun a => by rw [e a]; exact c.val a, fun kv hk => ?_⟩
  obtain ⟨a, e1, e2⟩ := c.key kv hk
  exact ⟨a, e1, List.mem_append_left _ e2⟩
theorem Cnt.put {kvs : List (Key × V)} {l a' : Int} {G : List Pl} (c : Cnt kvs l G) : Cnt (putK kvs (Sum.inl a') (.int ((G.count (l, a') : Nat) + 1))) l (G ++ [(l, a')]) := by
  refine ⟨?_, fun a => ?_, fun kv hk => ?_⟩
  · have := length_putK kvs (Sum.inl a' : Key) (V.int ((G.count (l, a') : Nat) + 1))
    have := c.len
    rw [List.length_append, List.length_singleton]; omega
  · rw [valV_put, List.count_append, List.count_singleton]
    by_cases e : a = a'
    · subst e
      rw [if_pos rfl, beq_self_eq_true, if_pos rfl, if_neg (Nat.succ_ne_zero _)]
      rfl
    · rw [if_neg (fun z => e (Sum.inl.inj z))]
      have : ((l, a') == (l, a)) = false := by
        rw [beq_eq_false_iff_ne]; intro z; injection z with _ z1; exact e z1.symm
      rw [this, c.val a]; rfl
  · rcases mem_putK hk with e | ⟨q, hq, e⟩
    · exact ⟨a', e, List.mem_append_right _ (List.mem_singleton.mpr rfl)⟩
    · obtain ⟨a, e1, e2⟩ := c.key q hq
      exact ⟨a, e.symm.trans e1, List.mem_append_left _ e2⟩
theorem flatten_take {rows : List (List Pl)} {i : Nat} {row : List Pl} (h : rows[i]? = some row) : (rows.take (i + 1)).flatten = (rows.take i).flatten ++ row := by
  rw [take_snoc h, List.flatten_append]; simp
theorem Okm.pl {ds : List Int} {rows : List (List Pl)} (o : Okm ds rows) {p : Pl} (h : p ∈ rows.flatten) : 0 ≤ p.1 ∧ p.1 < (ds.length : Nat) ∧ 0 ≤ p.2 := by
  obtain ⟨i, row, d, e, h1, h2, h3, _⟩ := (o.mem p).mp h
  obtain ⟨h4, _⟩ := List.getElem?_eq_some_iff.mp h2
  omega
theorem Okm.in_row {ds : List Int} {rows : List (List Pl)} {i j : Nat} {row : List Pl} {p : Pl} (h : rows[i]? = some row) (hp : row[j]? = some p) : p ∈ rows.flatten :=
  List.mem_flatten.mpr ⟨row, List.mem_of_getElem? h, List.mem_of_getElem? hp⟩
theorem len_take_flatten (rows : List (List Pl)) (i : Nat) : (rows.take i).flatten.length ≤ rows.flatten.length := by
  have : (rows.take i).flatten.length + (rows.drop i).flatten.length = rows.flatten.length := by
    rw [← List.length_append, ← List.flatten_append, List.take_append_drop]
  omega
theorem count_one : ∀ {l : List Pl} {p : Pl}, l.Nodup → p ∈ l → l.count p = 1
  | a :: r, p, h, hm => by
    obtain ⟨h1, h2⟩ := List.nodup_cons.mp h
    rw [List.count_cons]
    by_cases e : a = p
    · subst e
      rw [List.count_eq_zero.mpr h1, beq_self_eq_true]; rfl
    · rw [count_one h2 ((List.mem_cons.mp hm).resolve_left fun z => e z.symm), beq_eq_false_iff_ne.mpr e]; rfl
end L2.FK
/-! Dicts from places to places, and walks for the dict comprehensions. -/
namespace L2.FL
open PySem PySem.Spec PyProof.Rows
section
variable {J : It} {n : Nat} {G : Hp → Prop} {Y : Nat → Hp → V → Hp → Prop}
/-- one for: the turns by Pv -/
theorem dc_it (w : Walk J n G Y) {g : TG} {tk tv : TE} {vs : List Nat} {σ : St} {H1 : Hp} {D : Addr} {Qd : Hp → Prop} (Pv : Nat → Hp → Prop) (h0 : Pv 0 (upd H1 D (.dT []))) (hG : ∀ i H, i ≤ n → Pv i H → G H)
    (hs : ∀ i x H H', i < n → Pv i H → Y i H x H' → g x (wipe σ vs) H' fun σ2 H2 => wipe σ2 vs = wipe σ vs ∧ tk σ2 H2 fun y H4 => tv σ2 H4 fun z H5 =>
      ∃ kvs k b, y = .ref b ∧ H5 b = some (.tup (k.map kV)) ∧ H5 D = some (.dT kvs) ∧ kvs.length < sizeLine ∧ Pv (i + 1) (upd H5 D (.dT (putK kvs k z)))) (hd : ∀ H, Pv n H → Qd H) :
    ∃ W : Nat → Nat → Hp → Prop, (∃ m, W 0 m (upd H1 D (.dT []))) ∧ ∀ i m H, W i m H →
      (J.stop i H ∧ Qd H) ∨ (J.go i H ∧ ∃ Nx : Hp → Prop, (∀ H', Nx H' → ∃ m', m' < m ∧ W (i + 1) m' H') ∧ ∀ x H', J.yld i H x H' → g x (wipe σ vs) H' fun σ2 H2 => wipe σ2 vs = wipe σ vs ∧ tk σ2 H2 fun y H4 => tv σ2 H4 fun z H5 =>
        ∃ kvs k b, y = .ref b ∧ H5 b = some (.tup (k.map kV)) ∧ H5 D = some (.dT kvs) ∧ kvs.length < sizeLine ∧ Nx (upd H5 D (.dT (putK kvs k z)))) := by
  refine ⟨fun i m H => m = n - i ∧ i ≤ n ∧ Pv i H, ⟨n, rfl, Nat.zero_le _, h0⟩, ?_⟩
  rintro i m H ⟨rfl, hi, p⟩
  by_cases hlt : i < n
  · exact .inr ⟨w.goes i H hlt (hG i H hi p), Pv (i + 1), fun H' p' => ⟨n - (i + 1), by omega, rfl, hlt, p'⟩, fun x H' y => hs i x H H' hlt p (w.yields i H x H' hlt (hG i H hi p) y)⟩
  · obtain rfl : i = n := by omega
    exact .inl ⟨w.stops H (hG _ H hi p), hd H p⟩
/-- the outer of two fors -/
theorem dc2o_it (w : Walk J n G Y) {g : TG} {wi1 : TI} {vs : List Nat} {σ : St} {H1 : Hp} {D : Addr} {Qd : Hp → Prop} {B : (Hp → Prop) → St → It → Hp → Prop} (Pv : Nat → Hp → Prop) (h0 : Pv 0 (upd H1 D (.dT []))) (hG : ∀ i H, i ≤ n → Pv i H → G H)
    (hs : ∀ i x H H', i < n → Pv i H → Y i H x H' → g x (wipe σ vs) H' fun σ2 H2 => wipe σ2 vs = wipe σ vs ∧ wi1 σ2 H2 fun J1 H4 => B (Pv (i + 1)) σ2 J1 H4) (hd : ∀ H, Pv n H → Qd H) :
    ∃ W : Nat → Nat → Hp → Prop, (∃ m, W 0 m (upd H1 D (.dT []))) ∧ ∀ i m H, W i m H →
      (J.stop i H ∧ Qd H) ∨ (J.go i H ∧ ∃ Nx : Hp → Prop, (∀ H', Nx H' → ∃ m', m' < m ∧ W (i + 1) m' H') ∧ ∀ x H', J.yld i H x H' → g x (wipe σ vs) H' fun σ2 H2 => wipe σ2 vs = wipe σ vs ∧ wi1 σ2 H2 fun J1 H4 => B Nx σ2 J1 H4) := by
  refine ⟨fun i m H => m = n - i ∧ i ≤ n ∧ Pv i H, ⟨n, rfl, Nat.zero_le _, h0⟩, ?_⟩
  rintro i m H ⟨rfl, hi, p⟩
  by_cases hlt : i < n
  · exact .inr ⟨w.goes i H hlt (hG i H hi p), Pv (i + 1), fun H' p' => ⟨n - (i + 1), by omega, rfl, hlt, p'⟩, fun x H' y => hs i x H H' hlt p (w.yields i H x H' hlt (hG i H hi p) y)⟩
  · obtain rfl : i = n := by omega
    exact .inl ⟨w.stops H (hG _ H hi p), hd H p⟩
/-- the inner of two fors -/
theorem dc2i_it (w : Walk J n G Y) {g : TG} {tk tv : TE} {vs : List Nat} {σ : St} {H1 : Hp} {D : Addr} {Qd : Hp → Prop} (Pv : Nat → Hp → Prop) (h0 : Pv 0 H1) (hG : ∀ i H, i ≤ n → Pv i H → G H)
    (hs : ∀ i x H H', i < n → Pv i H → Y i H x H' → g x (wipe σ vs) H' fun σ2 H2 => wipe σ2 vs = wipe σ vs ∧ tk σ2 H2 fun y H4 => tv σ2 H4 fun z H5 =>
      ∃ kvs k b, y = .ref b ∧ H5 b = some (.tup (k.map kV)) ∧ H5 D = some (.dT kvs) ∧ kvs.length < sizeLine ∧ Pv (i + 1) (upd H5 D (.dT (putK kvs k z)))) (hd : ∀ H, Pv n H → Qd H) :
    ∃ W : Nat → Nat → Hp → Prop, (∃ m, W 0 m H1) ∧ ∀ i m H, W i m H →
      (J.stop i H ∧ Qd H) ∨ (J.go i H ∧ ∃ Nx : Hp → Prop, (∀ H', Nx H' → ∃ m', m' < m ∧ W (i + 1) m' H') ∧ ∀ x H', J.yld i H x H' → g x (wipe σ vs) H' fun σ2 H2 => wipe σ2 vs = wipe σ vs ∧ tk σ2 H2 fun y H4 => tv σ2 H4 fun z H5 =>
        ∃ kvs k b, y = .ref b ∧ H5 b = some (.tup (k.map kV)) ∧ H5 D = some (.dT kvs) ∧ kvs.length < sizeLine ∧ Nx (upd H5 D (.dT (putK kvs k z)))) := by
  refine ⟨fun i m H => m = n - i ∧ i ≤ n ∧ Pv i H, ⟨n, rfl, Nat.zero_le _, h0⟩, ?_⟩
  rintro i m H ⟨rfl, hi, p⟩
  by_cases hlt : i < n
  · exact .inr ⟨w.goes i H hlt (hG i H hi p), Pv (i + 1), fun H' p' => ⟨n - (i + 1), by omega, rfl, hlt, p'⟩, fun x H' y => hs i x H H' hlt p (w.yields i H x H' hlt (hG i H hi p) y)⟩
  · obtain rfl : i = n := by omega
    exact .inl ⟨w.stops H (hG _ H hi p), hd H p⟩
end
end L2.FL
namespace L2.FK
open PySem PySem.Spec PyProof.Rows L2.FL
/-! ### a dict from places to places -/
def key (p : Pl) : List Key := [Sum.inl p.1, Sum.inl p.2]
theorem key_map (p : Pl) : (key p).map kV = [.int p.1, .int p.2] := rfl
theorem key_inj {p q : Pl} (h : key p = key q) : p = q := by
  obtain ⟨a, b⟩ := p
  obtain ⟨c, d⟩ := q
  injection h with h1 h2
  injection h2 with h2 _
  have e1 : a = c := Sum.inl.inj h1
  have e2 : b = d := Sum.inl.inj h2
  rw [e1, e2]
structure Rep (H : Hp) (kvs : List (List Key × V)) (S : Pl → Pl → Prop) : Prop where
  has : ∀ p q, S p q → ∃ v, valV kvs (key p) = some v ∧ PlAt H v q
  only : ∀ kv ∈ kvs, ∃ p q, kv.1 = key p ∧ S p q ∧ PlAt H kv.2 q
theorem Rep.mono {H H' : Hp} {kvs : List (List Key × V)} {S : Pl → Pl → Prop} (r : Rep H kvs S) (s : Same H H') : Rep H' kvs S :=
  ⟨fun p q h => let ⟨v, e, z⟩ := r.has p q h; ⟨v, e, z.mono s⟩, fun kv h => let ⟨p, q, e, z, y⟩ := r.only kv h; ⟨p, q, e, z, y.mono s⟩⟩
theorem Rep.iff {H : Hp} {kvs : List (List Key × V)} {S S' : Pl → Pl → Prop} (r : Rep H kvs S) (h : ∀ p q, S p q ↔ S' p q) : Rep H kvs S' :=
  ⟨fun p q z => r.has p q ((h p q).mpr z), fun kv z => let ⟨p, q, e, y, x⟩ := r.only kv z; ⟨p, q, e, (h p q).mp y, x⟩⟩
theorem Rep.nil {H : Hp} : Rep H [] (fun _ _ => False) := ⟨fun _ _ h => h.elim, fun _ h => by cases h⟩
theorem mem_putT {kvs : List (List Key × V)} {k : List Key} {v : V} {p : List Key × V} (h : p ∈ putK kvs k v) : (p.1 = k ∧ p.2 = v) ∨ (p ∈ kvs ∧ p.1 ≠ k) := by
  unfold putK at h
  split at h
  · obtain ⟨q, hq, e⟩ := List.mem_map.mp h
    by_cases c : q.1 = k
    · rw [if_pos c] at e; left; rw [← e]; exact ⟨c, rfl⟩
    · rw [if_neg c] at e; right; rw [← e]; exact ⟨hq, c⟩
  · rename_i hn
    rcases List.mem_append.mp h with h | h
    · refine .inr ⟨h, fun e => hn ?_⟩
      exact List.any_eq_true.mpr ⟨p, h, decide_eq_true e⟩
    · left; rw [List.mem_singleton.mp h]; exact ⟨rfl, rfl⟩
theorem Rep.put {H : Hp} {kvs : List (List Key × V)} {S : Pl → Pl → Prop} {p q : Pl} {v : V} (r : Rep H kvs S) (hv : PlAt H v q) (hf : ∀ q', S p q' → q' = q) : Rep H (putK kvs (key p) v) (fun p' q' => S p' q' ∨ (p' = p ∧ q' = q)) := by
  refine ⟨fun p' q' h => ?_, fun kv h => ?_⟩
  · rw [valV_put]
    by_cases e : p' = p
    · subst e
      rw [if_pos rfl]
      refine ⟨v, rfl, ?_⟩
      rcases h with h | h
      · rw [hf q' h]; exact hv
      · rw [h.2]; exact hv
    · rw [if_neg fun z => e (key_inj z)]
      rcases h with h | h
      · exact r.has p' q' h
      · exact absurd h.1 e
  · rcases mem_putT h with ⟨e1, e2⟩ | ⟨e1, e2⟩
    · exact ⟨p, q, e1, .inr ⟨rfl, rfl⟩, by rw [e2]; exact hv⟩
    · obtain ⟨p', q', z1, z2, z3⟩ := r.only kv e1
      exact ⟨p', q', z1, .inl z2, z3⟩
theorem Rep.none {H : Hp} {kvs : List (List Key × V)} {S : Pl → Pl → Prop} {p : Pl} (r : Rep H kvs S) (h : ∀ q, ¬ S p q) : valV kvs (key p) = none := by
  cases e : valV kvs (key p) with
  | none => rfl
  | some v =>
    have m := valV_in e
    obtain ⟨kv, hkv, ek⟩ := List.mem_map.mp m
    obtain ⟨p', q', z1, z2, _⟩ := r.only kv hkv
    have : p' = p := key_inj (z1.symm.trans ek)
    subst this
    exact absurd z2 (h q')
/-! ### the image of an inner place -/
def inner (T : List (List Pl)) (p : Pl) : Option Pl := if 0 ≤ p.1 ∧ 0 ≤ p.2 then (T[p.1.toNat]?).bind (·[p.2.toNat]?) else none
theorem inner_at {T : List (List Pl)} {i j : Nat} {row : List Pl} (h : T[i]? = some row) : inner T ((i : Int), (j : Int)) = row[j]? := by
  unfold inner
  rw [if_pos ⟨by omega, by omega⟩]
  show (T[((i : Nat) : Int).toNat]?).bind _ = _
  rw [Int.toNat_natCast, h]
  show row[((j : Nat) : Int).toNat]? = _
  rw [Int.toNat_natCast]
theorem inner_some {T : List (List Pl)} {p q : Pl} (h : inner T p = some q) : ∃ (i j : Nat) (row : List Pl), p = ((i : Int), (j : Int)) ∧ T[i]? = some row ∧ row[j]? = some q := by
  unfold inner at h
  split at h
  · rename_i hp
    cases e : T[p.1.toNat]? with
    | none => rw [e] at h; cases h
    | some row =>
      rw [e] at h
      refine ⟨p.1.toNat, p.2.toNat, row, ?_, e, h⟩
      obtain ⟨a, b⟩ := p
      have h1 : 0 ≤ a := hp.1
      have h2 : 0 ≤ b := hp.2
      show (a, b) = (((a.toNat : Nat) : Int), ((b.toNat : Nat) : Int))
      rw [Int.toNat_of_nonneg h1, Int.toNat_of_nonneg h2]
  · cases h
theorem inner_out {T : List (List Pl)} {i j : Nat} (h : T[i]? = none) : inner T ((i : Int), (j : Int)) = none := by
  unfold inner
  rw [if_pos ⟨by omega, by omega⟩]
  show (T[((i : Nat) : Int).toNat]?).bind _ = _
  rw [Int.toNat_natCast, h]; rfl
theorem inner_mem {T : List (List Pl)} {p q : Pl} (h : inner T p = some q) : q ∈ T.flatten := by
  obtain ⟨i, j, row, _, h1, h2⟩ := inner_some h
  exact List.mem_flatten.mpr ⟨row, List.mem_of_getElem? h1, List.mem_of_getElem? h2⟩
theorem mem_inner {T : List (List Pl)} {q : Pl} (h : q ∈ T.flatten) : ∃ p, inner T p = some q := by
  obtain ⟨row, h1, h2⟩ := List.mem_flatten.mp h
  obtain ⟨i, hi⟩ := List.mem_iff_getElem?.mp h1
  obtain ⟨j, hj⟩ := List.mem_iff_getElem?.mp h2
  exact ⟨((i : Int), (j : Int)), by rw [inner_at hi]; exact hj⟩
theorem nodup_flatten_at : ∀ {T : List (List Pl)}, T.flatten.Nodup → ∀ {i j i' j' : Nat} {row row' : List Pl} {q : Pl}, T[i]? = some row → row[j]? = some q → T[i']? = some row' → row'[j']? = some q → i = i' ∧ j = j'
  | [], _, i, _, _, _, _, _, _, h, _, _, _ => by simp at h
  | r :: T, hn, i, j, i', j', row, row', q, h1, h2, h3, h4 => by
    have hn : (r ++ T.flatten).Nodup := hn
    obtain ⟨n1, n2, n3⟩ := List.nodup_append.mp hn
    have inT : ∀ {k : Nat} {row : List Pl} {m : Nat}, T[k]? = some row → row[m]? = some q → q ∈ T.flatten := fun a b => List.mem_flatten.mpr ⟨_, List.mem_of_getElem? a, List.mem_of_getElem? b⟩
    cases i with
    | zero =>
      have h1 : r = row := by simpa using h1
      subst h1
      cases i' with
      | zero =>
        have h3 : r = row' := by simpa using h3
        subst h3
        exact ⟨rfl, nd_ix n1 h2 h4⟩
      | succ k => exact absurd rfl (n3 q (List.mem_of_getElem? h2) q (inT (by simpa using h3) h4))
    | succ k =>
      cases i' with
      | zero =>
        have h3 : r = row' := by simpa using h3
        subst h3
        exact absurd rfl (n3 q (List.mem_of_getElem? h4) q (inT (by simpa using h1) h2))
      | succ k' =>
        obtain ⟨e1, e2⟩ := nodup_flatten_at n2 (i := k) (i' := k') (by simpa using h1) h2 (by simpa using h3) h4
        exact ⟨by omega, e2⟩
theorem inner_inj {T : List (List Pl)} (hn : T.flatten.Nodup) {p p' q : Pl} (h : inner T p = some q) (h' : inner T p' = some q) : p = p' := by
  obtain ⟨i, j, row, rfl, h1, h2⟩ := inner_some h
  obtain ⟨i', j', row', rfl, h3, h4⟩ := inner_some h'
  obtain ⟨e1, e2⟩ := nodup_flatten_at hn h1 h2 h3 h4
  rw [e1, e2]
/-! ### trimming all lanes -/
def trimAll (ds : List Int) (rows : List (List Pl)) : List (List Pl) := (List.range rows.length).map fun (i : Nat) => trimRow (i : Int) (ds.getD i 0) (rows.getD i [])
theorem trimAll_len (ds : List Int) (rows : List (List Pl)) : (trimAll ds rows).length = rows.length := by
  unfold trimAll; rw [List.length_map, List.length_range]
theorem trimAll_get {ds : List Int} {rows : List (List Pl)} {i : Nat} {row : List Pl} {d : Int} (h : rows[i]? = some row) (hd : ds[i]? = some d) : (trimAll ds rows)[i]? = some (trimRow (i : Int) d row) := by
  obtain ⟨hi, _⟩ := List.getElem?_eq_some_iff.mp h
  unfold trimAll
  rw [List.getElem?_map, List.getElem?_range hi]
  show some (trimRow (i : Int) (ds.getD i 0) (rows.getD i [])) = _
  rw [List.getD_eq_getElem?_getD, List.getD_eq_getElem?_getD, h, hd]; rfl
theorem trimAll_of {ds : List Int} {rows : List (List Pl)} (hl : rows.length = ds.length) {i : Nat} {t : List Pl} (h : (trimAll ds rows)[i]? = some t) : ∃ row d, rows[i]? = some row ∧ ds[i]? = some d ∧ t = trimRow (i : Int) d row := by
  obtain ⟨hi, _⟩ := List.getElem?_eq_some_iff.mp h
  rw [trimAll_len] at hi
  have hd : i < ds.length := hl ▸ hi
  rw [trimAll_get (List.getElem?_eq_getElem hi) (List.getElem?_eq_getElem hd)] at h
  exact ⟨_, _, List.getElem?_eq_getElem hi, List.getElem?_eq_getElem hd, (Option.some.inj h).symm⟩
theorem trimRow_get {l d : Int} {row : List Pl} {j : Nat} {q : Pl} (h : (trimRow l d row)[j]? = some q) : row[j]? = some q := by
  unfold trimRow at h
  rw [List.getElem?_take] at h
  split at h
  · exact h
  · cases h
theorem trimRow_len (l d : Int) (row : List Pl) : (trimRow l d row).length ≤ row.length := by
  unfold trimRow; rw [List.length_take]; omega
theorem inner_trim {ds : List Int} {rows : List (List Pl)} (hl : rows.length = ds.length) {p q : Pl} (h : inner (trimAll ds rows) p = some q) : inner rows p = some q := by
  obtain ⟨i, j, t, rfl, h1, h2⟩ := inner_some h
  obtain ⟨row, d, e1, _, rfl⟩ := trimAll_of hl h1
  rw [inner_at e1]
  exact trimRow_get h2
theorem row_len {rows : List (List Pl)} {i : Nat} {row : List Pl} (h : rows[i]? = some row) : row.length ≤ rows.flatten.length := by
  have := len_take_flatten rows (i + 1)
  rw [flatten_take h, List.length_append] at this; omega
/-! ### an instance -/
def flds (v1 v2 v3 v4 : V) : List (Str × V) := putF "origins" v4 (putF "images" v3 (putF "rows" v2 (putF "shifts" v1 [])))
theorem fl_shifts (v1 v2 v3 v4 : V) : (flds v1 v2 v3 v4).lookup ("shifts" : Str) = some v1 := by
  unfold flds
  rw [lookup_putF, if_neg (by decide +kernel), lookup_putF, if_neg (by decide +kernel), lookup_putF, if_neg (by decide +kernel), lookup_putF, if_pos rfl]
theorem fl_rows (v1 v2 v3 v4 : V) : (flds v1 v2 v3 v4).lookup ("rows" : Str) = some v2 := by
  unfold flds
  rw [lookup_putF, if_neg (by decide +kernel), lookup_putF, if_neg (by decide +kernel), lookup_putF, if_pos rfl]
theorem fl_images (v1 v2 v3 v4 : V) : (flds v1 v2 v3 v4).lookup ("images" : Str) = some v3 := by
  unfold flds
  rw [lookup_putF, if_neg (by decide +kernel), lookup_putF, if_pos rfl]
theorem fl_origins (v1 v2 v3 v4 : V) : (flds v1 v2 v3 v4).lookup ("origins" : Str) = some v4 := by
  unfold flds
  rw [lookup_putF, if_pos rfl]
theorem fl_no (v1 v2 v3 v4 : V) {m : Str} (h1 : ¬ m = "origins") (h2 : ¬ m = "images") (h3 : ¬ m = "rows") (h4 : ¬ m = "shifts") : (flds v1 v2 v3 v4).lookup m = none := by
  unfold flds
  rw [lookup_putF, if_neg h1, lookup_putF, if_neg h2, lookup_putF, if_neg h3, lookup_putF, if_neg h4]; rfl
theorem putF_len (f : Str) (v : V) (l : List (Str × V)) : (putF f v l).length ≤ l.length + 1 := by
  induction l with
  | nil => exact Nat.le_refl _
  | cons p r ih =>
    unfold putF
    split
    · simp
    · simp only [List.length_cons]; omega
/-- a LaneMap at v -/
def LMap (C : Addr) (H : Hp) (v : V) (ds : List Int) (T : List (List Pl)) : Prop := ∃ p dx a1 v2 a3 a4 im og, v = .ref p ∧ H p = some (.ins C dx (flds (.ref a1) v2 (.ref a3) (.ref a4))) ∧ H a1 = some (.lst (ds.map V.int)) ∧ RowsAt H v2 T ∧
  H a3 = some (.dT im) ∧ Rep H im (fun p q => inner T p = some q) ∧ H a4 = some (.dT og) ∧ Rep H og (fun q p => inner T p = some q)
theorem LMap.mono {C : Addr} {H H' : Hp} {v : V} {ds : List Int} {T : List (List Pl)} (s : Same H H') (h : LMap C H v ds T) : LMap C H' v ds T :=
  let ⟨p, dx, a1, v2, a3, a4, im, og, e, h1, h2, h3, h4, h5, h6, h7⟩ := h
  ⟨p, dx, a1, v2, a3, a4, im, og, e, s _ _ h1, s _ _ h2, h3.mono s, s _ _ h4, h5.mono s, s _ _ h6, h7.mono s⟩
theorem sum_lens (rows : List (List Pl)) : (rows.map fun x => ((x.length : Nat) : Int)).sum = (rows.flatten.length : Nat) := by
  induction rows with
  | nil => rfl
  | cons a r ih => rw [List.map_cons, List.sum_cons, ih, List.flatten_cons, List.length_append]; omega
end L2.FK
/-! The text by places, what is asked of the top. -/
namespace L2.FK
open PySem PySem.Spec PyProof.Rows L2.FL
def top (i : Nat) : Stmt := PySem.Challenge.pw_farlanes_k48_programs_of_expressions.main.body.getD i (.Pass ⟨0, 0, 0, 0⟩)
abbrev sCompiled : Stmt := top 1
abbrev sBag : Stmt := top 3
abbrev sPull : Stmt := top 4
abbrev sOf : Stmt := top 5
abbrev sLike : Stmt := top 6
abbrev sMove : Stmt := top 7
abbrev sNames : Stmt := top 8
abbrev sTree : Stmt := top 9
abbrev sAtom : Stmt := top 10
abbrev sProgram : Stmt := top 11
abbrev sLaw : Stmt := top 12
/-- a def of the module with its parameters -/
def Has (K : PySem.W.Frag) (mg : Str → Option Value) (x : Str) (st : Stmt) (ps : List Str) : Prop := ∃ f fd, C8.Def K mg x st f fd ∧ Binds K fd ps []
/-- the built-ins are the built-ins -/
structure Bl (mg : Str → Option Value) : Prop where
  len : mg "len" = none
  range : mg "range" = none
  list : mg "list" = none
  tuple : mg "tuple" = none
  isinstance : mg "isinstance" = none
  all : mg "all" = none
  int : mg "int" = none
  bool : mg "bool" = none
  str : mg "str" = none
section
variable {P : Program} {w : World} {K : PySem.W.Frag} {mg : Str → Option Value} {base : Heap}
theorem cal_of {x : Str} {st : Stmt} {N ps : List Str} {k : Nat} {sp : Sp} (h : Has K mg x st ps) (S : FnScope N ps (C8.fnScope st)) (len : ∀ vs H Q E, sp vs H Q E → vs.length = ps.length)
    (hbody : ∀ (f : Addr) (cdv : Value) (A : Around) (outer : List Env) (s : Shared) (H : Hp) (vs : List V) (Q : VK) (E : XK), Room k (A.deeper (envOfC x (C8.fnScope st) s.heap.objs.size f cdv)) → sp vs H Q E →
      ∃ t, PSs (cxOf C8.CX0 P w K mg base N x (C8.fnScope st) f cdv A outer s H E).nox (C8.fnBody st) t ∧ t { nx := fun _ H' => Q .non H', rt := Q } (start N vs) H) : C8.Cal P w K mg base (k + 1) x sp [] := by
  obtain ⟨f, fd, F, b⟩ := h
  exact C8.cal0 F b .nil S len fun cdv A outer s H vs Q E hr hs => hbody f cdv A outer s H vs Q E hr hs
end
end L2.FK
namespace L2.FK
open PySem PySem.Spec PyProof.Rows L2.FL
/-- the law's bag at b -/
def BagAt (H : Hp) (b sa : Addr) : Prop := ∃ (ns : List Int) (i held mix cnt : Int), H b = some (.lst [.ref sa, .int i, .int held, .int mix, .int cnt]) ∧ del b H sa = some (.lst (ns.map V.int)) ∧ 0 ≤ i ∧ 0 ≤ held ∧ 0 ≤ mix ∧ mix < 2147483629
theorem BagAt.mono {H H' : Hp} {b sa : Addr} (s : Same H H') (h : BagAt H b sa) : BagAt H' b sa :=
  let ⟨ns, i, held, mix, cnt, h1, h2, r⟩ := h
  ⟨ns, i, held, mix, cnt, s _ _ h1, same_dels s _ _ h2, r⟩
theorem BagAt.put {H : Hp} {b sa a : Addr} {o : HO} (h : BagAt H b sa) (n1 : b ≠ a) (n2 : sa ≠ a) : BagAt (upd H a o) b sa :=
  let ⟨ns, i, held, mix, cnt, h1, h2, r⟩ := h
  ⟨ns, i, held, mix, cnt, by rw [upd_ne n1]; exact h1, by rw [del_upd_ne n1.symm, upd_ne n2]; exact h2, r⟩
theorem BagAt.old {H : Hp} {b sa a : Addr} (h : BagAt H b sa) (n : H a = none) : b ≠ a ∧ sa ≠ a :=
  let ⟨ns, i, held, mix, cnt, h1, h2, r⟩ := h
  ⟨ne_of_none h1 n, ne_of_none (of_del h2).1 n⟩
section
variable {H H' : Hp} {b sa : Addr} {v : V}
theorem all_ref {F : V → α → Prop} {vs : List V} {l : List α} (hf : ∀ v x, F v x → ∃ a, v = V.ref a) (h : Paired F vs l) {i held mix cnt : Int} : HO.lst vs ≠ .lst [.ref sa, .int i, .int held, .int mix, .int cnt] := by
  intro e
  injection e with e
  subst e
  cases h with
  | cons _ t => cases t with
    | cons r _ =>
      obtain ⟨a, e⟩ := hf _ _ r
      cases e
theorem IntsAt.bag (B : BagAt H b sa) {ns : List Int} (h : IntsAt H v ns) : IntsAt (FK.del b H) v ns := by
  obtain ⟨_, i, held, mix, cnt, h1, _⟩ := B
  obtain ⟨a, e, q⟩ := h
  refine ⟨a, e, del_of h1 q fun z => ?_⟩
  injection z with z
  cases ns with
  | nil => cases z
  | cons n r => rw [List.map_cons] at z; injection z with z _; cases z
theorem PlAt.bag (B : BagAt H b sa) {p : Pl} (h : PlAt H v p) : PlAt (FK.del b H) v p := by
  obtain ⟨_, i, held, mix, cnt, h1, _⟩ := B
  exact h.del h1 fun _ z => nomatch z
theorem pls_bag (B : BagAt H b sa) {vs : List V} {row : List Pl} (h : Paired (PlAt H) vs row) : Paired (PlAt (FK.del b H)) vs row := paired_mono h fun _ _ z => z.bag B
theorem RowAt.bag (B : BagAt H b sa) {row : List Pl} (h : RowAt H v row) : RowAt (FK.del b H) v row := by
  obtain ⟨a, vs, e, q, r⟩ := h
  have B' := B
  obtain ⟨_, i, held, mix, cnt, h1, _⟩ := B
  exact ⟨a, vs, e, del_of h1 q (all_ref (fun _ _ z => ⟨z.choose, z.choose_spec.1⟩) r), pls_bag B' r⟩
theorem RowsAt.bag (B : BagAt H b sa) {rows : List (List Pl)} (h : RowsAt H v rows) : RowsAt (FK.del b H) v rows := by
  obtain ⟨a, vs, e, q, r⟩ := h
  have B' := B
  obtain ⟨_, i, held, mix, cnt, h1, _⟩ := B
  exact ⟨a, vs, e, del_of h1 q (all_ref (fun _ _ z => ⟨z.choose, z.choose_spec.choose_spec.1⟩) r), paired_mono r fun _ _ z => z.bag B'⟩
theorem DAt.bag (B : BagAt H b sa) {ds : List Int} {rows : List (List Pl)} (h : DAt H v ds rows) : DAt (FK.del b H) v ds rows := by
  obtain ⟨t, v1, v2, e, q, r1, r2⟩ := h
  have B' := B
  obtain ⟨_, i, held, mix, cnt, h1, _⟩ := B
  exact ⟨t, v1, v2, e, del_of h1 q (fun z => nomatch z), r1.bag B', r2.bag B'⟩
end
section
variable {P : Program} {w : World} {K : PySem.W.Frag} {mg : Str → Option Value} {base : Heap}
theorem cut63 (ns : List Int) : ∃ ms : List Int, cutV (ns.map V.int) none (some 63) = ms.map V.int ∧ ms.length ≤ 63 := by
  refine ⟨ns.take 63, ?_, by rw [List.length_take]; omega⟩
  unfold cutV
  rw [show (63 : Int) = ((63 : Nat) : Int) from rfl, HT.sIx_nat, HT.sIx_none, List.drop_zero, Nat.sub_zero, List.map_take]
  by_cases c : 63 ≤ (ns.map V.int).length
  · rw [Nat.min_eq_left c]
  · rw [Nat.min_eq_right (by omega), List.take_length, List.take_of_length_le (by omega)]
def spBag (K : PySem.W.Frag) : Sp := fun vs H Q _ => ∃ (a : Addr) (ns : List Int), vs = [.ref a] ∧ SqL K H a (ns.map V.int) ∧ ∀ b sa H', H b = none → Same H (del b H') → BagAt H' b sa → Q (.ref b) H'
theorem sc_bag : FnScope ["_law_script", "_law_mix", "_law_cell"] ["_law_script"] (C8.fnScope sBag) := C8.fnScope_by (by decide +kernel)
theorem ok_bag (h : Has K mg "_law_bag" sBag ["_law_script"]) (B : Bl mg) : C8.Cal P w K mg base 1 "_law_bag" (spBag K) [] := by
  refine cal_of h sc_bag (fun vs H Q E z => ?_) (fun f cdv A outer s H vs Q E hr z => ?_)
  · obtain ⟨a, ns, rfl, _⟩ := z; rfl
  obtain ⟨a, ns, rfl, hs, q⟩ := z
  have nd := sc_bag.nd
  obtain ⟨ms, em, hm⟩ := cut63 ns
  refine ⟨_, pss_cons (ps_set (i := 1) nd rfl (.inl rfl) pe_int)
    (pss_cons (ps_for PassesOwn.never rfl (pi_list (pe_slice sl_list (pv 0) po_none (po_some pe_int))) (pg_name (i := 2) nd rfl (.inl rfl))
      (pss_one (ps_set (i := 1) nd rfl (.inl rfl) (pe_op op_mod (pe_op op_add (pe_op op_add (pe_op op_mul (pv 1) pe_int) (pe_op op_mod (pv 2) pe_int)) pe_int) pe_int))))
    (pss_one (ps_ret (pe_lst (pa_cons (pe_callTy (c_list K) (by rfl) B.list bt_list (pa_cons (pe_slice sl_list (pv 0) po_none (po_some pe_int)) pa_nil)) (pa_cons pe_int (pa_cons pe_int (pa_cons (pv 1) (pa_cons pe_int pa_nil))))))))), ?_⟩
  refine ⟨_, rfl, _, rfl, a, _, rfl, hs, fun p hp => ?_⟩
  rw [em]
  have s1 := same_new hp (.lst (ms.map V.int))
  have g1 : upd H p (.lst (ms.map V.int)) p = _ := upd_same
  generalize upd H p (.lst (ms.map V.int)) = H1 at s1 g1
  refine ⟨p, rfl, ⟨_, SqL.of g1⟩, for_it (walk_list (K := K) (a := p) (xs := ms.map V.int)) (fun i σ H' => H' = H1 ∧ ∃ (mix : Int) (x : Option V), 0 ≤ mix ∧ mix < 2147483629 ∧ σ = [some (.ref a), some (.int mix), x]) ⟨rfl, 9478, _, by decide, by decide, rfl⟩ ?_ ?_ ?_⟩
  · rintro i σ H' _ ⟨rfl, _⟩; exact SqL.of g1
  · rintro i x σ H2 H3 hi ⟨rfl, mix, x', h0, h1, rfl⟩ ⟨rfl, hx⟩
    rw [List.getElem?_map] at hx
    cases e : ms[i]? with
    | none => rw [e] at hx; cases hx
    | some m =>
      rw [e] at hx; cases hx
      refine ⟨_, rfl, _, _, rfl, rfl, .inl ⟨by omega, by omega⟩, _, rfl, _, _, rfl, rfl, (by show (0 : Int) < 2147483629; decide), _, _, rfl, rfl, _, _, rfl, rfl, _, _, rfl, rfl, (by show (0 : Int) < 2147483629; decide), rfl, _, _, ?_, ?_, rfl⟩
      · exact Int.emod_nonneg _ (by decide)
      · exact Int.emod_lt_of_pos _ (by decide)
  · rintro σ H2 ⟨rfl, mix, x', h0, h1, rfl⟩
    refine ⟨_, rfl, _, rfl, a, _, rfl, s1.seq hs, fun p2 hp2 => ?_⟩
    rw [em]
    have s2 := same_new hp2 (.lst (ms.map V.int))
    have g2 : upd H2 p2 (.lst (ms.map V.int)) p2 = _ := upd_same
    generalize upd H2 p2 (.lst (ms.map V.int)) = H3 at s2 g2
    refine ⟨p2, _, rfl, .inl (SqL.of g2), fun l hl => ?_⟩
    have s3 := same_new hl (.lst (ms.map V.int))
    have g3 : upd H3 l (.lst (ms.map V.int)) l = _ := upd_same
    generalize upd H3 l (.lst (ms.map V.int)) = H4 at s3 g3
    refine ⟨_, rfl, (by show 5 ≤ sizeLine; decide), fun b hb => ?_⟩
    have s04 := s1.trans (s2.trans s3)
    refine q b l _ (s04.free hb) (by rw [del_upd]; exact same_del s04 (s04.free hb)) ⟨ms, 0, 0, mix, 0, upd_same, ?_, by decide, by decide, h0, h1⟩
    rw [del_upd, del_ne (ne_of_none g3 hb)]; exact g3
/-! ### _law_pull -/
abbrev nPull : List Str := ["_law_bag_here", "_law_size", "_law_cell", "_law_mix", "_law_found"]
def spPull : Sp := fun vs H Q _ => ∃ (b sa : Addr) (sz : Int), vs = [.ref b, .int sz] ∧ BagAt H b sa ∧ 0 < sz ∧ sz < 1073741824 ∧ ∀ (r : Int) H', 0 ≤ r → r < sz → Same (del b H) (del b H') → BagAt H' b sa → Q (.int r) H'
theorem sc_pull : FnScope nPull ["_law_bag_here", "_law_size"] (C8.fnScope sPull) := C8.fnScope_by (by decide +kernel)
abbrev bagL (sa : Addr) (i held mix cnt : Int) : HO := .lst [.ref sa, .int i, .int held, .int mix, .int cnt]
theorem ok_pull (h : Has K mg "_law_pull" sPull ["_law_bag_here", "_law_size"]) (B : Bl mg) : C8.Cal P w K mg base 1 "_law_pull" spPull [] := by
  refine cal_of h sc_pull (fun vs H Q E z => ?_) (fun f cdv A outer s H vs Q E hr z => ?_)
  · obtain ⟨b, sa, sz, rfl, _⟩ := z; rfl
  obtain ⟨b, sa, sz, rfl, ⟨ns, i, held, mix, cnt, hb, hsa, hi, hh, hm0, hm1⟩, z0, z1, q⟩ := z
  have nd := sc_pull.nd
  obtain ⟨hsa1, nsa⟩ := of_del hsa
  have ix := fun (k : Int) => k
  refine ⟨_, pss_cons (ps_asg (pe_op op_add (pe_ix ix_list (pv 0) pe_int (fun _ _ => rfl)) pe_int) (pg_sub (pv 0) pe_int set_list))
    (C8.pss_cut (ps_if (PW.pt (pw_and (pt_cmpR op_eq (pe_ix ix_list (pv 0) pe_int (fun _ _ => rfl)) pe_int (nomark _)) (pw_and1 (pt_cmpR op_lt (pe_ix ix_list (pv 0) pe_int (fun _ _ => rfl)) (pe_callB call_len_seq (by rfl) B.len bt_len (pa_cons (pe_ix ix_list (pv 0) pe_int (fun _ _ => rfl)) pa_nil)) (nomark _)))))
      (pss_cons (ps_set (i := 2) nd rfl (.inl rfl) (pe_ix ix_list (pe_ix ix_list (pv 0) pe_int (fun _ _ => rfl)) (pe_ix ix_list (pv 0) pe_int (fun _ _ => rfl)) (fun _ _ => rfl)))
      (pss_cons (ps_asg (pe_op op_add (pe_ix ix_list (pv 0) pe_int (fun _ _ => rfl)) pe_int) (pg_sub (pv 0) pe_int set_list))
      (pss_one (ps_if (pt_cmpR op_ge (pv 2) (pe_op op_pow pe_int pe_int) (nomark _))
        (pss_one (ps_asg (pv 2) (pg_sub (pv 0) pe_int set_list)))
        (pss_cons (ps_set (i := 3) nd rfl (.inl rfl) (pe_op op_add (pe_op op_mul (pe_ix ix_list (pv 0) pe_int (fun _ _ => rfl)) pe_int) (pe_op op_mul (pe_op op_mod (pv 2) pe_int) pe_int)))
        (pss_one (ps_asg (pe_op op_mod (pe_op op_add (pv 3) pe_int) pe_int) (pg_sub (pv 0) pe_int set_list)))))))) pss_nil)
    (pss_cons (ps_if (pt_cmpR op_gt (pe_ix ix_list (pv 0) pe_int (fun _ _ => rfl)) pe_int (nomark _))
      (pss_cons (ps_set (i := 4) nd rfl (.inl rfl) (pe_op op_mod (pe_ix ix_list (pv 0) pe_int (fun _ _ => rfl)) (pv 1)))
      (pss_cons (ps_asg (pe_op op_fdiv (pe_ix ix_list (pv 0) pe_int (fun _ _ => rfl)) (pv 1)) (pg_sub (pv 0) pe_int set_list))
      (pss_one (ps_ret (pv 4))))) pss_nil)
    (pss_cons (ps_set (i := 3) nd rfl (.inl rfl) (pe_op op_add (pe_op op_mul (pe_op op_mul (pe_ix ix_list (pv 0) pe_int (fun _ _ => rfl)) (pe_ix ix_list (pv 0) pe_int (fun _ _ => rfl))) pe_int) (pe_op op_mul (pe_ix ix_list (pv 0) pe_int (fun _ _ => rfl)) pe_int)))
    (pss_cons (ps_asg (pe_op op_mod (pe_op op_add (pv 3) (pe_op op_mul pe_int (pe_ix ix_list (pv 0) pe_int (fun _ _ => rfl)))) pe_int) (pg_sub (pv 0) pe_int set_list))
    (pss_one (ps_ret (pe_op op_mod (pe_op op_fdiv (pe_ix ix_list (pv 0) pe_int (fun _ _ => rfl)) pe_int) (pv 1)))))))), ?_⟩
  -- an end
  have fin : ∀ (i' held' mix' cnt' r : Int), 0 ≤ i' → 0 ≤ held' → 0 ≤ mix' → mix' < 2147483629 → 0 ≤ r → r < sz → Q (.int r) (upd H b (bagL sa i' held' mix' cnt')) := fun i' held' mix' cnt' r a1 a2 a3 a4 a5 a6 =>
    q r _ a5 a6 (by rw [del_upd]; exact Same.refl _) ⟨ns, i', held', mix', cnt', upd_same, by rw [del_upd]; exact hsa, a1, a2, a3, a4⟩
  have get : ∀ {i' held' mix' cnt' : Int}, SqL K (upd H b (bagL sa i' held' mix' cnt')) b [.ref sa, .int i', .int held', .int mix', .int cnt'] := fun {_ _ _ _} => SqL.of upd_same
  refine ⟨_, rfl, b, _, _, _, rfl, rfl, SqL.of hb, rfl, _, _, rfl, rfl, _, rfl, b, _, _, 4, rfl, rfl, hb, rfl, ?_⟩
  show C8.tCut _ _ _ _ (upd H b (bagL sa i held mix (cnt + 1)))
  refine ⟨fun σ H' => ∃ i' held' mix' cnt' x2 x3 x4, 0 ≤ i' ∧ 0 ≤ held' ∧ 0 ≤ mix' ∧ mix' < 2147483629 ∧ H' = upd H b (bagL sa i' held' mix' cnt') ∧ σ = [some (.ref b), some (.int sz), x2, x3, x4], ?_, ?_⟩
  · refine ⟨_, rfl, b, _, _, _, rfl, rfl, get, rfl, rfl, _, rfl, ?_⟩
    by_cases c : V.int held = V.int 0
    · rw [decide_eq_true c]
      refine iteT ⟨_, rfl, b, _, _, _, rfl, rfl, get, rfl, _, rfl, b, _, _, _, rfl, rfl, get, rfl, sa, _, rfl, .inl (SqL.of (by rw [upd_ne nsa]; exact hsa1)), _, _, rfl, rfl, _, rfl, ?_⟩
      rw [List.length_map]
      by_cases c2 : i < (ns.length : Nat)
      · rw [decide_eq_true c2]
        have hin : i.toNat < ns.length := by omega
        refine iteT ⟨_, rfl, b, _, _, _, rfl, rfl, get, rfl, _, rfl, b, _, _, _, rfl, rfl, get, rfl, sa, _, _, V.int ns[i.toNat], rfl, rfl, SqL.of (by rw [upd_ne nsa]; exact hsa1), at_of (j := i.toNat) (by omega) (by rw [List.getElem?_map, List.getElem?_eq_getElem hin]; rfl), ?_⟩
        refine ⟨_, rfl, b, _, _, _, rfl, rfl, get, rfl, _, _, rfl, rfl, _, rfl, b, _, _, 1, rfl, rfl, upd_same, rfl, ?_⟩
        rw [upd_upd]
        refine ⟨_, rfl, _, _, rfl, rfl, ⟨by decide, by decide, by decide⟩, _, _, rfl, rfl, _, rfl, ?_⟩
        refine ite2 (fun c3 => ?_) (fun c3 => ?_)
        · have c3 : ns[i.toNat] ≥ 10 ^ (18 : Int).toNat := of_decide_eq_true c3
          have c4 : (0 : Int) ≤ ns[i.toNat] := by
            have : (0 : Int) ≤ 10 ^ (18 : Int).toNat := by decide
            omega
          refine ⟨_, rfl, _, rfl, b, _, _, 2, rfl, rfl, upd_same, rfl, ?_⟩
          exact ⟨i + 1, ns[i.toNat], mix, cnt + 1, _, _, _, by omega, c4, hm0, hm1, by rw [upd_upd]; rfl, rfl⟩
        · refine ⟨_, rfl, b, _, _, _, rfl, rfl, get, rfl, _, _, rfl, rfl, .inl ⟨by omega, by omega⟩, _, rfl, _, _, rfl, rfl, (by show (0 : Int) < 2147483629; decide), _, _, rfl, rfl, ?_, _, _, rfl, rfl, ?_⟩
          · have e1 := Int.emod_nonneg ns[i.toNat] (show (2147483629 : Int) ≠ 0 by decide)
            have e2 := Int.emod_lt_of_pos ns[i.toNat] (show (0 : Int) < 2147483629 by decide)
            exact .inl ⟨by omega, by omega⟩
          · refine ⟨_, rfl, _, _, rfl, rfl, _, _, rfl, rfl, (by show (0 : Int) < 2147483629; decide), _, rfl, b, _, _, 3, rfl, rfl, upd_same, rfl, ?_⟩
            refine ⟨i + 1, held, _, cnt + 1, _, _, _, by omega, hh, ?_, ?_, by rw [upd_upd]; rfl, rfl⟩
            · exact Int.emod_nonneg _ (by decide)
            · exact Int.emod_lt_of_pos _ (by decide)
      · rw [decide_eq_false c2]
        exact iteF ⟨i, held, mix, cnt + 1, _, _, _, hi, hh, hm0, hm1, rfl, rfl⟩
    · rw [decide_eq_false c]
      exact iteF ⟨i, held, mix, cnt + 1, _, _, _, hi, hh, hm0, hm1, rfl, rfl⟩
  · rintro σ H' ⟨i', held', mix', cnt', x2, x3, x4, a1, a2, a3, a4, rfl, rfl⟩
    refine ⟨_, rfl, b, _, _, _, rfl, rfl, get, rfl, _, _, rfl, rfl, _, rfl, ?_⟩
    by_cases c : (0 : Int) < held'
    · rw [decide_eq_true c]
      refine iteT ⟨_, rfl, b, _, _, _, rfl, rfl, get, rfl, _, rfl, _, _, rfl, rfl, z0, ?_⟩
      refine ⟨_, rfl, b, _, _, _, rfl, rfl, get, rfl, _, rfl, _, _, rfl, rfl, ⟨z0, z1⟩, _, rfl, b, _, _, 2, rfl, rfl, upd_same, rfl, _, rfl, ?_⟩
      rw [upd_upd]
      exact fin i' (held' / sz) mix' cnt' _ a1 (Int.ediv_nonneg a2 (by omega)) a3 a4 (Int.emod_nonneg _ (by omega)) (Int.emod_lt_of_pos _ z0)
    · rw [decide_eq_false c]
      have e1 : mix' * mix' < 2 ^ 64 := by
        have z1 : mix' * mix' ≤ 2147483629 * 2147483629 := Int.mul_le_mul (by omega) (by omega) a3 (by decide)
        have z2 : (2147483629 * 2147483629 : Int) < 2 ^ 64 := by decide
        omega
      have e0 : 0 ≤ mix' * mix' := Int.mul_nonneg a3 a3
      refine iteF ⟨_, rfl, b, _, _, _, rfl, rfl, get, rfl, _, rfl, b, _, _, _, rfl, rfl, get, rfl, _, _, rfl, rfl, .inl ⟨by omega, by omega⟩, _, _, rfl, rfl, .inl ⟨by omega, e1⟩, _, rfl, b, _, _, _, rfl, rfl, get, rfl, _, _, rfl, rfl, .inl ⟨by omega, by omega⟩, _, _, rfl, rfl, ?_⟩
      refine ⟨_, rfl, _, rfl, b, _, _, _, rfl, rfl, get, rfl, _, _, rfl, rfl, .inl ⟨by decide, by decide⟩, _, _, rfl, rfl, _, _, rfl, rfl, (by show (0 : Int) < 2147483629; decide), _, rfl, b, _, _, 3, rfl, rfl, upd_same, rfl, ?_⟩
      rw [upd_upd]
      exact ⟨_, rfl, b, _, _, _, rfl, rfl, get, rfl, _, _, rfl, rfl, ⟨by decide, by decide⟩, _, rfl, _, _, rfl, rfl, z0, fin i' held' _ cnt' _ a1 a2 (Int.emod_nonneg _ (by decide)) (Int.emod_lt_of_pos _ (by decide)) (Int.emod_nonneg _ (by omega)) (Int.emod_lt_of_pos _ z0)⟩
end
end L2.FK
namespace L2.FK
open PySem PySem.Spec PyProof.Rows L2.FL
/-- x and y are alike data, to the depth n -/
def Alk (H : Hp) : Nat → V → V → Prop
  | 0, _, _ => False
  | n + 1, x, y => (∃ i : Int, x = .int i ∧ y = .int i) ∨ (∃ z : Str, x = .str z ∧ y = .str z) ∨ (x = .non ∧ y = .non) ∨ (∃ z : Bool, x = .bl z ∧ y = .bl z) ∨ ∃ a b xs ys, x = .ref a ∧ y = .ref b ∧ ((H a = some (.lst xs) ∧ H b = some (.lst ys)) ∨ (H a = some (.tup xs) ∧ H b = some (.tup ys))) ∧ Paired (Alk H n) xs ys ∧ xs.length ≤ 3000
theorem Alk.mono {H H' : Hp} (s : Same H H') : ∀ {n : Nat} {x y : V}, Alk H n x y → Alk H' n x y
  | 0, _, _, h => h
  | n + 1, x, y, h => by
    rcases h with h | h | h | h | ⟨a, b, xs, ys, e1, e2, h1, h2, h3⟩
    · exact .inl h
    · exact .inr (.inl h)
    · exact .inr (.inr (.inl h))
    · exact .inr (.inr (.inr (.inl h)))
    · refine .inr (.inr (.inr (.inr ⟨a, b, xs, ys, e1, e2, ?_, paired_mono h2 fun _ _ z => Alk.mono s z, h3⟩)))
      rcases h1 with h1 | h1
      · exact .inl ⟨s _ _ h1.1, s _ _ h1.2⟩
      · exact .inr ⟨s _ _ h1.1, s _ _ h1.2⟩
theorem kt_list (K : PySem.W.Frag) : PySem.W.kitAny K (.type "list") [.type "list", .type "tuple"] = some true := kitAny_cons (b := true) (kit_ty (by decide +kernel)) (fun z => by cases z) (fun _ => rfl)
theorem kt_tuple (K : PySem.W.Frag) : PySem.W.kitAny K (.type "tuple") [.type "list", .type "tuple"] = some true := kitAny_cons (b := false) (kit_ty (by decide +kernel)) (fun _ => kitAny_cons (b := true) (kit_ty (by decide +kernel)) (fun z => by cases z) (fun _ => rfl)) (fun z => by cases z)
theorem kt_int (K : PySem.W.Frag) : PySem.W.kitAny K (.type "int") [.type "list", .type "tuple"] = some false := kitAny_cons (b := false) (kit_ty (by decide +kernel)) (fun _ => kitAny_cons (b := false) (kit_ty (by decide +kernel)) (fun _ => rfl) (fun z => by cases z)) (fun z => by cases z)
theorem kt_str (K : PySem.W.Frag) : PySem.W.kitAny K (.type "str") [.type "list", .type "tuple"] = some false := kitAny_cons (b := false) (kit_ty (by decide +kernel)) (fun _ => kitAny_cons (b := false) (kit_ty (by decide +kernel)) (fun _ => rfl) (fun z => by cases z)) (fun z => by cases z)
theorem kt_non (K : PySem.W.Frag) : PySem.W.kitAny K (.type "NoneType") [.type "list", .type "tuple"] = some false := kitAny_cons (b := false) (kit_ty (by decide +kernel)) (fun _ => kitAny_cons (b := false) (kit_ty (by decide +kernel)) (fun _ => rfl) (fun z => by cases z)) (fun z => by cases z)
theorem kt_bool (K : PySem.W.Frag) : PySem.W.kitAny K (.type "bool") [.type "list", .type "tuple"] = some false := kitAny_cons (b := false) (kit_ty (by decide +kernel)) (fun _ => kitAny_cons (b := false) (kit_ty (by decide +kernel)) (fun _ => rfl) (fun z => by cases z)) (fun z => by cases z)
theorem k_bb (K : PySem.W.Frag) : PySem.W.kitOne K (.type "bool") (.type "bool") = some true := kit_ty (by decide +kernel)
theorem k_sb (K : PySem.W.Frag) : PySem.W.kitOne K (.type "str") (.type "bool") = some false := kit_ty (by decide +kernel)
theorem k_si (K : PySem.W.Frag) : PySem.W.kitOne K (.type "str") (.type "int") = some false := kit_ty (by decide +kernel)
theorem k_ss (K : PySem.W.Frag) : PySem.W.kitOne K (.type "str") (.type "str") = some true := kit_ty (by decide +kernel)
theorem k_ll (K : PySem.W.Frag) : PySem.W.kitOne K (.type "list") (.type "list") = some true := kit_ty (by decide +kernel)
theorem k_lt (K : PySem.W.Frag) : PySem.W.kitOne K (.type "list") (.type "tuple") = some false := kit_ty (by decide +kernel)
theorem k_tl (K : PySem.W.Frag) : PySem.W.kitOne K (.type "tuple") (.type "list") = some false := kit_ty (by decide +kernel)
theorem k_tt (K : PySem.W.Frag) : PySem.W.kitOne K (.type "tuple") (.type "tuple") = some true := kit_ty (by decide +kernel)
theorem k_ib (K : PySem.W.Frag) : PySem.W.kitOne K (.type "int") (.type "bool") = some false := kit_ty (by decide +kernel)
theorem k_ii (K : PySem.W.Frag) : PySem.W.kitOne K (.type "int") (.type "int") = some true := kit_ty (by decide +kernel)
theorem k_is' (K : PySem.W.Frag) : PySem.W.kitOne K (.type "int") (.type "str") = some false := kit_ty (by decide +kernel)
section
variable {X : Cx}
/-- xs[i] of a list or of a tuple -/
theorem ix_both (K : PySem.W.Frag) (h : X.K = K := by rfl) : IxR X (fun x y H Q => rIxL K x y H Q ∨ rIxT K x y H Q) := by subst h; exact ix_list.or ix_tup
theorem c_isi (K : PySem.W.Frag) (h : X.K = K := by rfl) : CallR X (.builtin "isinstance") (rIsi K) := by subst h; exact call_isi
end
section
variable {P : Program} {w : World} {K : PySem.W.Frag} {mg : Str → Option Value} {base : Heap} {C : Addr}
abbrev nLk : List Str := ["_law_found", "_law_due", "_law_kinds", "_law_one", "_law_k"]
def spLike (n : Nat) : Sp := fun vs H Q _ => ∃ x y, vs = [x, y] ∧ Alk H n x y ∧ ∀ H', Same H H' → Q (.bl true) H'
theorem sc_lk : FnScope nLk ["_law_found", "_law_due"] (C8.fnScope sLike) := C8.fnScope_by (by decide +kernel)
theorem like_zero (h : Has K mg "_law_like" sLike ["_law_found", "_law_due"]) : C8.Cal P w K mg base 0 "_law_like" (spLike 0) [] := by
  obtain ⟨f, fd, F, b⟩ := h
  have no : ∀ vs H Q E, ¬ spLike 0 vs H Q E := fun vs H Q E z => by obtain ⟨x, y, _, z, _⟩ := z; exact z
  exact ⟨f, fd, _, [], ⟨fun vs H Q E z => absurd z (no vs H Q E), fun A outer s H args us vs Q E _ _ _ _ z => absurd z (no vs H Q E)⟩, F.mgf, F.kp, b, .nil⟩
theorem like_succ {n : Nat} (h : Has K mg "_law_like" sLike ["_law_found", "_law_due"]) (B : Bl mg) (c : C8.Cal P w K mg base n "_law_like" (spLike n) []) : C8.Cal P w K mg base (n + 1) "_law_like" (spLike (n + 1)) [] := by
  refine cal_of h sc_lk (fun vs H Q E z => ?_) (fun f cdv A outer s H vs Q E hr z => ?_)
  · obtain ⟨x, y, rfl, _⟩ := z; rfl
  obtain ⟨x, y, rfl, hxy, q⟩ := z
  have nd := sc_lk.nd
  refine ⟨_, pss_cons (ps_if (pt_val (pe_callB call_isiT (by rfl) B.isinstance bt_isinstance (pa_cons (pv 1) (pa_cons (pe_tup (pa_cons (pe_bltn (v := .ty "list") (by rfl) B.list bt_list rfl) (pa_cons (pe_bltn (v := .ty "tuple") (by rfl) B.tuple bt_tuple rfl) pa_nil))) pa_nil))))
      (pss_cons (ps_setLc (i := 2) (own := [("_law_one", 3)]) (g := gName 3) (tt := tYes) rfl nd rfl rfl (sw_true rfl rfl rfl (by decide +kernel)) (pi_tup (pe_tup (pa_cons (pv 0) (pa_cons (pv 1) pa_nil)))) (blkOk_by (own := [("_law_one", 3)]) (N := nLk) (sc := C8.fnScope sLike) (by decide +kernel))
        (fun _ _ _ _ _ => pg_name (i := 3) nd rfl (Or.inl rfl)) (fun _ _ _ _ _ => pts_nil)
        (fun _ _ _ _ _ => pe_tup (pa_cons (pe_callB (c_isi K) (by rfl) B.isinstance bt_isinstance (pa_cons (pv 3) (pa_cons (pe_bltn (v := .ty "list") (by rfl) B.list bt_list rfl) pa_nil)))
          (pa_cons (pe_callB (c_isi K) (by rfl) B.isinstance bt_isinstance (pa_cons (pv 3) (pa_cons (pe_bltn (v := .ty "tuple") (by rfl) B.tuple bt_tuple rfl) pa_nil))) pa_nil))))
      (pss_cons (ps_if (PW.pt (pw_or (pt_cmpR (op_neD hr.units) (pe_ix ix_list (pv 2) pe_int (fun _ _ => rfl)) (pe_ix ix_list (pv 2) pe_int (fun _ _ => rfl)) (nomark _))
          (pw_or1 (pt_cmpR op_ne (pe_callB call_len_seq (by rfl) B.len bt_len (pa_cons (pv 0) pa_nil)) (pe_callB call_len_seq (by rfl) B.len bt_len (pa_cons (pv 1) pa_nil)) (nomark _))))) (pss_one ps_never) pss_nil)
      (pss_one (ps_ret (pe_callB (cr_all rfl) (by rfl) B.all bt_all (pa_cons (pe_lc (own := [("_law_k", 4)]) (g := gName 4) (tt := tYes) rfl nd (pi_range1 rfl B.range (pa_cons (pe_callB call_len_seq (by rfl) B.len bt_len (pa_cons (pv 1) pa_nil)) pa_nil))
        (blkOk_by (own := [("_law_k", 4)]) (N := nLk) (sc := C8.fnScope sLike) (by decide +kernel)) (fun _ _ _ _ _ => pg_name (i := 4) nd rfl (Or.inl rfl)) (fun _ _ _ _ _ => pts_nil)
        (fun _ _ _ _ _ => C8.pe_c c hr (Nat.le_refl _) rfl (pa_cons (pe_ix (ix_both K) (pv 0) (pv 4) (fun _ _ => rfl)) (pa_cons (pe_ix (ix_both K) (pv 1) (pv 4) (fun _ _ => rfl)) pa_nil)))) pa_nil)))))) pss_nil)
    (pss_cons (ps_if (PW.pt (pw_or (pt_cmpR op_isN (pv 1) pe_non (nomark _)) (pw_or1 (pt_cmpR op_isN (pv 0) pe_non (nomark _))))) (pss_one (ps_ret (pe_and (pe_cmpR op_isN (pv 1) pe_non (nomark _)) (pe_one (pe_cmpR op_isN (pv 0) pe_non (nomark _)))))) pss_nil)
    (pss_cons (ps_if (PW.pt (pw_or (pt_val (pe_callB (c_isi K) (by rfl) B.isinstance bt_isinstance (pa_cons (pv 1) (pa_cons (pe_bltn (v := .ty "bool") (by rfl) B.bool bt_bool rfl) pa_nil))))
      (pw_or1 (pt_val (pe_callB (c_isi K) (by rfl) B.isinstance bt_isinstance (pa_cons (pv 0) (pa_cons (pe_bltn (v := .ty "bool") (by rfl) B.bool bt_bool rfl) pa_nil))))))) (pss_one (ps_ret (pe_and (pe_callB (c_isi K) (by rfl) B.isinstance bt_isinstance (pa_cons (pv 1) (pa_cons (pe_bltn (v := .ty "bool") (by rfl) B.bool bt_bool rfl) pa_nil)))
        (pe_and (pe_callB (c_isi K) (by rfl) B.isinstance bt_isinstance (pa_cons (pv 0) (pa_cons (pe_bltn (v := .ty "bool") (by rfl) B.bool bt_bool rfl) pa_nil))) (pe_one (pe_cmpR op_eq (pv 0) (pv 1) (nomark _))))))) pss_nil)
    (pss_cons (ps_if (PW.pt (pw_or (pt_cmpR op_ne (pe_callB (c_isi K) (by rfl) B.isinstance bt_isinstance (pa_cons (pv 0) (pa_cons (pe_bltn (v := .ty "int") (by rfl) B.int bt_int rfl) pa_nil))) (pe_callB (c_isi K) (by rfl) B.isinstance bt_isinstance (pa_cons (pv 1) (pa_cons (pe_bltn (v := .ty "int") (by rfl) B.int bt_int rfl) pa_nil))) (nomark _))
      (pw_or1 (pt_cmpR op_ne (pe_callB (c_isi K) (by rfl) B.isinstance bt_isinstance (pa_cons (pv 0) (pa_cons (pe_bltn (v := .ty "str") (by rfl) B.str bt_str rfl) pa_nil))) (pe_callB (c_isi K) (by rfl) B.isinstance bt_isinstance (pa_cons (pv 1) (pa_cons (pe_bltn (v := .ty "str") (by rfl) B.str bt_str rfl) pa_nil))) (nomark _))))) (pss_one ps_never) pss_nil)
    (pss_one (ps_ret (pe_cmpR op_eq (pv 0) (pv 1) (nomark _))))))), ?_⟩
  refine ⟨_, rfl, (by show 2 ≤ sizeLine; decide), fun tp htp => ?_⟩
  have s1 := same_new htp (.tup [.ty "list", .ty "tuple"])
  have g1 : upd H tp (.tup [.ty "list", .ty "tuple"]) tp = some (.tup [.ty "list", .ty "tuple"]) := upd_same
  have cls : Paired ClsV [.ty "list", .ty "tuple"] [Value.type "list", Value.type "tuple"] := .cons (.ty _) (.cons (.ty _) .nil)
  rcases hxy with ⟨i, rfl, rfl⟩ | ⟨z, rfl, rfl⟩ | ⟨rfl, rfl⟩ | ⟨z, rfl, rfl⟩ | ⟨a, b, xs, ys, rfl, rfl, hab, hps, hlen⟩
  · refine ⟨_, tp, _, _, _, false, rfl, g1, cls, .base (.int i), kt_int K, _, rfl, iteF ?_⟩
    generalize upd H tp (.tup [.ty "list", .ty "tuple"]) = H1 at s1 g1
    refine ⟨_, rfl, rfl, _, rfl, iteF ⟨_, rfl, rfl, _, rfl, iteF ?_⟩⟩
    refine ⟨_, rfl, _, _, _, _, false, rfl, .ty _, .base (.int i), k_ib K, _, rfl, iteF ⟨_, rfl, _, _, _, _, false, rfl, .ty _, .base (.int i), k_ib K, _, rfl, iteF ?_⟩⟩
    refine ⟨_, rfl, _, _, _, _, true, rfl, .ty _, .base (.int i), k_ii K, _, rfl, _, _, _, _, true, rfl, .ty _, .base (.int i), k_ii K, rfl, _, rfl, iteF ?_⟩
    refine ⟨_, rfl, _, _, _, _, false, rfl, .ty _, .base (.int i), k_is' K, _, rfl, _, _, _, _, false, rfl, .ty _, .base (.int i), k_is' K, rfl, _, rfl, iteF ?_⟩
    refine ⟨_, rfl, _, rfl, rfl, ?_⟩
    rw [decide_eq_true rfl]
    exact q _ s1
  · refine ⟨_, tp, _, _, _, false, rfl, g1, cls, .base (.str z), kt_str K, _, rfl, iteF ?_⟩
    generalize upd H tp (.tup [.ty "list", .ty "tuple"]) = H1 at s1 g1
    refine ⟨_, rfl, rfl, _, rfl, iteF ⟨_, rfl, rfl, _, rfl, iteF ?_⟩⟩
    refine ⟨_, rfl, _, _, _, _, false, rfl, .ty _, .base (.str z), k_sb K, _, rfl, iteF ⟨_, rfl, _, _, _, _, false, rfl, .ty _, .base (.str z), k_sb K, _, rfl, iteF ?_⟩⟩
    refine ⟨_, rfl, _, _, _, _, false, rfl, .ty _, .base (.str z), k_si K, _, rfl, _, _, _, _, false, rfl, .ty _, .base (.str z), k_si K, rfl, _, rfl, iteF ?_⟩
    refine ⟨_, rfl, _, _, _, _, true, rfl, .ty _, .base (.str z), k_ss K, _, rfl, _, _, _, _, true, rfl, .ty _, .base (.str z), k_ss K, rfl, _, rfl, iteF ?_⟩
    refine ⟨_, rfl, _, rfl, rfl, ?_⟩
    rw [decide_eq_true rfl]
    exact q _ s1
  · refine ⟨_, tp, _, _, _, false, rfl, g1, cls, .base .non, kt_non K, _, rfl, iteF ?_⟩
    generalize upd H tp (.tup [.ty "list", .ty "tuple"]) = H1 at s1 g1
    refine ⟨_, rfl, rfl, _, rfl, iteT ?_⟩
    refine ⟨_, rfl, rfl, _, rfl, iteT ?_⟩
    exact ⟨_, rfl, rfl, q _ s1⟩
  · refine ⟨_, tp, _, _, _, false, rfl, g1, cls, .base (.bl z), kt_bool K, _, rfl, iteF ?_⟩
    generalize upd H tp (.tup [.ty "list", .ty "tuple"]) = H1 at s1 g1
    refine ⟨_, rfl, rfl, _, rfl, iteF ⟨_, rfl, rfl, _, rfl, iteF ?_⟩⟩
    refine ⟨_, rfl, _, _, _, _, true, rfl, .ty _, .base (.bl z), k_bb K, _, rfl, iteT ?_⟩
    refine ⟨_, rfl, _, _, _, _, true, rfl, .ty _, .base (.bl z), k_bb K, _, rfl, iteT ?_⟩
    refine ⟨_, rfl, _, _, _, _, true, rfl, .ty _, .base (.bl z), k_bb K, _, rfl, iteT ?_⟩
    refine ⟨_, rfl, _, rfl, rfl, ?_⟩
    rw [decide_eq_true rfl]
    exact q _ s1
  · generalize upd H tp (.tup [.ty "list", .ty "tuple"]) = H1 at s1 g1
    have hpl := paired_len hps
    -- the kind of both
    obtain ⟨ty, c1, c2, hty, k0, k1, k2, hsq⟩ : ∃ (ty : Value) (c1 c2 : Bool), (∀ {H'}, Same H H' → TyX K H' (.ref a) ty ∧ TyX K H' (.ref b) ty) ∧ PySem.W.kitAny K ty [.type "list", .type "tuple"] = some true ∧ PySem.W.kitOne K ty (.type "list") = some c1 ∧ PySem.W.kitOne K ty (.type "tuple") = some c2 ∧
        ∀ {H'}, Same H H' → (SqL K H' a xs ∧ SqL K H' b ys) ∨ (SqT K H' a xs ∧ SqT K H' b ys) := by
      rcases hab with ⟨h1, h2⟩ | ⟨h1, h2⟩
      · exact ⟨.type "list", true, false, fun s' => ⟨.base (.lst (s' _ _ h1)), .base (.lst (s' _ _ h2))⟩, kt_list K, k_ll K, k_lt K, fun s' => .inl ⟨SqL.of (s' _ _ h1), SqL.of (s' _ _ h2)⟩⟩
      · exact ⟨.type "tuple", false, true, fun s' => ⟨.base (.tup (s' _ _ h1)), .base (.tup (s' _ _ h2))⟩, kt_tuple K, k_tl K, k_tt K, fun s' => .inr ⟨.inl (.inl (s' _ _ h1)), .inl (.inl (s' _ _ h2))⟩⟩
    have hsA : ∀ {H'}, Same H H' → SqL K H' a xs ∨ SqT K H' a xs := fun s' => (hsq s').elim (fun z => .inl z.1) fun z => .inr z.1
    have hsB : ∀ {H'}, Same H H' → SqL K H' b ys ∨ SqT K H' b ys := fun s' => (hsq s').elim (fun z => .inl z.2) fun z => .inr z.2
    refine ⟨_, tp, _, _, _, true, rfl, g1, cls, (hty s1).2, k0, _, rfl, iteT ?_⟩
    -- kinds
    refine ⟨_, rfl, _, rfl, (by show 2 ≤ sizeLine; decide), fun t2 ht2 => ?_⟩
    have s2 := s1.trans (same_new ht2 (.tup [.ref a, .ref b]))
    have g2 : upd H1 t2 (.tup [.ref a, .ref b]) t2 = some (.tup [.ref a, .ref b]) := upd_same
    generalize upd H1 t2 (.tup [.ref a, .ref b]) = H2 at s2 g2
    refine ⟨t2, rfl, ⟨_, .inl (.inl g2)⟩, fun D hD => ?_⟩
    refine lc_it (walk_tup (K := K) (a := t2) (xs := [.ref a, .ref b])) (fun i H' => Same H2 (del D H') ∧ ∃ ts : List Addr, H' D = some (.lst (ts.map V.ref)) ∧ ts.length = i ∧ ∀ t ∈ ts, del D H' t = some (.tup [.bl c1, .bl c2])) ?_ ?_ ?_ ?_
    · exact ⟨by rw [del_upd]; exact same_del (Same.refl _) hD, [], upd_same, rfl, fun t ht => by cases ht⟩
    · rintro i H' _ ⟨s', _⟩; exact .inl (.inl (del_same _ _ (s' _ _ g2)))
    · rintro i z H3 H4 hi ⟨s3, ts, g3, htl, hts⟩ ⟨rfl, hz⟩
      have s03 : Same H H4 := s2.trans (s3.trans del_same)
      have tz : TyX K H4 z ty := by
        have hi : i < 2 := hi
        match i, hi, hz with
        | 0, _, hz => cases hz; exact (hty s03).1
        | 1, _, hz => cases hz; exact (hty s03).2
      refine ⟨rfl, _, rfl, _, _, _, _, c1, rfl, .ty _, tz, k1, _, rfl, _, _, _, _, c2, rfl, .ty _, tz, k2, (by show 2 ≤ sizeLine; decide), fun t ht => ?_⟩
      have nt : t ≠ D := (ne_of_none g3 ht).symm
      have hi : i < 2 := hi
      refine ⟨_, by rw [upd_ne nt.symm]; exact g3, snoc_le (by rw [List.length_map]; omega), ?_⟩
      have ed : ∀ {o o'}, del D (upd (upd H4 t o) D o') = upd (del D H4) t o := fun {o o'} => by rw [del_upd, del_upd_ne nt]
      refine ⟨by rw [ed]; exact s3.trans (same_new (none_del ht) _), ts ++ [t], by rw [upd_same, List.map_append]; rfl, by rw [List.length_append, htl]; rfl, fun u hu => ?_⟩
      rw [ed]
      rcases List.mem_append.mp hu with hu | hu
      · rw [upd_ne (ne_of_none (hts u hu) (none_del ht))]; exact hts u hu
      · rw [List.mem_singleton.mp hu, upd_same]
    rintro H3 ⟨s3, ts, g3, htl, hts⟩
    have s03 : Same H H3 := s2.trans (s3.trans del_same)
    match ts, htl, hts, g3 with
    | [ta, tb], _, hts, g3 =>
      have hta := del_same _ _ (hts ta (by simp))
      have htb := del_same _ _ (hts tb (by simp))
      have dpa : ∀ {t}, H3 t = some (.tup [.bl c1, .bl c2]) → Dp K H3 (.ref t) (.tuple [.bool c1, .bool c2]) := fun e => .tup (.inl (.inl e)) (.cons (.bl _) (.cons (.bl _) .nil))
      refine ⟨_, rfl, D, _, _, _, rfl, rfl, SqL.of g3, rfl, _, rfl, D, _, _, _, rfl, rfl, SqL.of g3, rfl, _, _, dpa hta, dpa htb, rfl, rfl, _, rfl, ?_⟩
      have ee : PyData.eqv (.tuple [.bool c1, .bool c2]) (.tuple [.bool c1, .bool c2]) = true := by cases c1 <;> cases c2 <;> rfl
      rw [ee]
      refine iteF ⟨_, rfl, a, xs, rfl, hsA s03, _, rfl, b, ys, rfl, hsB s03, rfl, _, rfl, ?_⟩
      refine iteNS (by rw [hpl]) ?_
      -- all
      refine ⟨_, rfl, b, ys, rfl, hsB s03, _, rfl, by omega, by omega, fun E2 hE => ?_⟩
      rw [Int.toNat_natCast]
      refine lc_it (walk_range (lo := 0) (n := ys.length)) (fun i H' => Same H3 (del E2 H') ∧ H' E2 = some (.lst ((List.replicate i true).map V.bl))) ?_ ?_ ?_ ?_
      · exact ⟨by rw [del_upd]; exact same_del (Same.refl _) hE, upd_same⟩
      · rintro i H' _ _; trivial
      · rintro i z H4 H5 hi ⟨s4, g4⟩ ⟨rfl, rfl⟩
        have s05 : Same H H5 := s03.trans (s4.trans del_same)
        have hix : i < xs.length := by omega
        obtain ⟨y, hy, hal⟩ := paired_get hps i (List.getElem?_eq_getElem hix)
        have e0 : (0 : Int) + (i : Int) = (i : Int) := by omega
        have ax : atI xs (0 + (i : Int)) = some xs[i] := by rw [e0]; exact atI_nat (List.getElem?_eq_getElem hix)
        have ay : atI ys (0 + (i : Int)) = some y := by rw [e0]; exact atI_nat hy
        refine ⟨rfl, _, rfl, _, rfl, ?_⟩
        have fin : spLike n [xs[i], y] H5 (fun v H6 => ∃ acc, H6 E2 = some (.lst acc) ∧ acc.length < sizeLine ∧ Same H3 (del E2 (upd H6 E2 (.lst (acc ++ [v])))) ∧ upd H6 E2 (.lst (acc ++ [v])) E2 = some (.lst ((List.replicate (i + 1) true).map V.bl))) C8.E0 := by
          refine ⟨_, _, rfl, hal.mono s05, fun H6 s6 => ⟨_, s6 _ _ g4, snoc_le (by rw [List.length_map, List.length_replicate]; omega), by rw [del_upd]; exact s4.trans (same_dels s6), ?_⟩⟩
          rw [upd_same, List.replicate_succ', List.map_append]; rfl
        rcases hsq s05 with ⟨sa, sb⟩ | ⟨sa, sb⟩
        · exact .inl ⟨a, xs, _, _, rfl, rfl, sa, ax, _, rfl, _, rfl, .inl ⟨b, ys, _, _, rfl, rfl, sb, ay, fin⟩⟩
        · exact .inr ⟨a, xs, _, _, rfl, rfl, sa, ax, _, rfl, _, rfl, .inr ⟨b, ys, _, _, rfl, rfl, sb, ay, fin⟩⟩
      · rintro H4 ⟨s4, g4⟩
        refine ⟨E2, _, rfl, SqL.of g4, ?_⟩
        have : (List.replicate ys.length true).all id = true := by simp
        rw [this]
        exact q _ (s03.trans (s4.trans del_same))
theorem ok_like (h : Has K mg "_law_like" sLike ["_law_found", "_law_due"]) (B : Bl mg) : ∀ n, C8.Cal P w K mg base n "_law_like" (spLike n) []
  | 0 => like_zero h
  | n + 1 => like_succ h B (ok_like h B n)
theorem alk_pl {H : Hp} {v u : V} {p : Pl} (hv : PlAt H v p) (hu : PlAt H u p) : Alk H 2 v u := by
  obtain ⟨t, rfl, ht⟩ := hv
  obtain ⟨t', rfl, ht'⟩ := hu
  exact .inr (.inr (.inr (.inr ⟨t, t', _, _, rfl, rfl, .inr ⟨ht, ht'⟩, .cons (.inl ⟨_, rfl, rfl⟩) (.cons (.inl ⟨_, rfl, rfl⟩) .nil), by simp⟩)))
theorem paired_two {α : Type} {F G : V → α → Prop} {R : V → V → Prop} : ∀ {vs us : List V} {l : List α}, Paired F vs l → Paired G us l → (∀ x y a, F x a → G y a → R x y) → Paired R vs us
  | _, _, _, .nil, .nil, _ => .nil
  | _, _, _, .cons a t, .cons b u, h => .cons (h _ _ _ a b) (paired_two t u h)
end
end L2.FK
/-! Trees and programs as data; compiled and the law's own program. -/
namespace L2.FK
open PySem PySem.Spec PyProof.Rows L2.FL
inductive Ex where
  | ident : Ex
  | lead : Int → Int → Ex
  | swap : Pl → Pl → Ex
  | name : Str → Ex
  | prod : Ex → Ex → Ex
  | conj : Ex → Ex → Ex
  | pow : Ex → Int → Ex
def ExAt (H : Hp) : Ex → V → Prop
  | .ident, v => ∃ t, v = .ref t ∧ H t = some (.tup [.str "identity"])
  | .lead i j, v => ∃ t, v = .ref t ∧ H t = some (.tup [.str "lead", .int i, .int j])
  | .swap p q, v => ∃ t a b, v = .ref t ∧ H t = some (.tup [.str "swap", a, b]) ∧ PlAt H a p ∧ PlAt H b q
  | .name z, v => ∃ t, v = .ref t ∧ H t = some (.tup [.str "name", .str z])
  | .prod l r, v => ∃ t a b, v = .ref t ∧ H t = some (.tup [.str "product", a, b]) ∧ ExAt H l a ∧ ExAt H r b
  | .conj l r, v => ∃ t a b, v = .ref t ∧ H t = some (.tup [.str "conjugate", a, b]) ∧ ExAt H l a ∧ ExAt H r b
  | .pow x k, v => ∃ t a, v = .ref t ∧ H t = some (.tup [.str "power", a, .int k]) ∧ ExAt H x a
def Ex.dep : Ex → Nat
  | .prod l r => max l.dep r.dep + 1
  | .conj l r => max l.dep r.dep + 1
  | .pow x _ => x.dep + 1
  | _ => 1
theorem Ex.dep_pos (e : Ex) : 1 ≤ e.dep := by cases e <;> simp [Ex.dep]
theorem ExAt.mono {H H' : Hp} (s : Same H H') : ∀ {e : Ex} {v : V}, ExAt H e v → ExAt H' e v
  | .ident, _, ⟨t, e, h⟩ => ⟨t, e, s _ _ h⟩
  | .lead _ _, _, ⟨t, e, h⟩ => ⟨t, e, s _ _ h⟩
  | .swap _ _, _, ⟨t, a, b, e, h, p, q⟩ => ⟨t, a, b, e, s _ _ h, p.mono s, q.mono s⟩
  | .name _, _, ⟨t, e, h⟩ => ⟨t, e, s _ _ h⟩
  | .prod _ _, _, ⟨t, a, b, e, h, p, q⟩ => ⟨t, a, b, e, s _ _ h, ExAt.mono s p, ExAt.mono s q⟩
  | .conj _ _, _, ⟨t, a, b, e, h, p, q⟩ => ⟨t, a, b, e, s _ _ h, ExAt.mono s p, ExAt.mono s q⟩
  | .pow _ _, _, ⟨t, a, e, h, p⟩ => ⟨t, a, e, s _ _ h, ExAt.mono s p⟩
theorem ExAt.del {H : Hp} {D : Addr} {o : HO} (hD : H D = some o) (nt : ∀ xs, HO.tup xs ≠ o) : ∀ {e : Ex} {v : V}, ExAt H e v → ExAt (FK.del D H) e v
  | .ident, _, ⟨t, e, h⟩ => ⟨t, e, del_of hD h (nt _)⟩
  | .lead _ _, _, ⟨t, e, h⟩ => ⟨t, e, del_of hD h (nt _)⟩
  | .swap _ _, _, ⟨t, a, b, e, h, p, q⟩ => ⟨t, a, b, e, del_of hD h (nt _), p.del hD nt, q.del hD nt⟩
  | .name _, _, ⟨t, e, h⟩ => ⟨t, e, del_of hD h (nt _)⟩
  | .prod _ _, _, ⟨t, a, b, e, h, p, q⟩ => ⟨t, a, b, e, del_of hD h (nt _), ExAt.del hD nt p, ExAt.del hD nt q⟩
  | .conj _ _, _, ⟨t, a, b, e, h, p, q⟩ => ⟨t, a, b, e, del_of hD h (nt _), ExAt.del hD nt p, ExAt.del hD nt q⟩
  | .pow _ _, _, ⟨t, a, e, h, p⟩ => ⟨t, a, e, del_of hD h (nt _), ExAt.del hD nt p⟩
inductive Ins where
  | ident : Ins
  | lead : Int → Int → Ins
  | swap : Pl → Pl → Ins
  | load : Str → Ins
  | comp : Ins
  | conj : Ins
  | pow : Int → Ins
def InsAt (H : Hp) (v : V) : Ins → Prop
  | .ident => ∃ t, v = .ref t ∧ H t = some (.tup [.str "identity"])
  | .lead i j => ∃ t, v = .ref t ∧ H t = some (.tup [.str "lead", .int i, .int j])
  | .swap p q => ∃ t a b, v = .ref t ∧ H t = some (.tup [.str "swap", a, b]) ∧ PlAt H a p ∧ PlAt H b q
  | .load z => ∃ t, v = .ref t ∧ H t = some (.tup [.str "load", .str z])
  | .comp => ∃ t, v = .ref t ∧ H t = some (.tup [.str "compose"])
  | .conj => ∃ t, v = .ref t ∧ H t = some (.tup [.str "conjugate"])
  | .pow k => ∃ t, v = .ref t ∧ H t = some (.tup [.str "power", .int k])
theorem InsAt.mono {H H' : Hp} (s : Same H H') {v : V} : ∀ {i : Ins}, InsAt H v i → InsAt H' v i
  | .ident, ⟨t, e, h⟩ => ⟨t, e, s _ _ h⟩
  | .lead _ _, ⟨t, e, h⟩ => ⟨t, e, s _ _ h⟩
  | .swap _ _, ⟨t, a, b, e, h, p, q⟩ => ⟨t, a, b, e, s _ _ h, p.mono s, q.mono s⟩
  | .load _, ⟨t, e, h⟩ => ⟨t, e, s _ _ h⟩
  | .comp, ⟨t, e, h⟩ => ⟨t, e, s _ _ h⟩
  | .conj, ⟨t, e, h⟩ => ⟨t, e, s _ _ h⟩
  | .pow _, ⟨t, e, h⟩ => ⟨t, e, s _ _ h⟩
theorem alk_flat {H : Hp} {x y : V} {t u : Addr} {xs : List V} (ex : x = .ref t) (ey : y = .ref u) (hx : H t = some (.tup xs)) (hy : H u = some (.tup xs)) (hl : xs.length ≤ 3000) (hf : Paired (Alk H 1) xs xs) : Alk H 3 x y := by
  refine .inr (.inr (.inr (.inr ⟨t, u, xs, xs, ex, ey, .inr ⟨hx, hy⟩, paired_mono hf fun a b z => ?_, hl⟩)))
  rcases z with z | z | z | z | ⟨a, b, xs, ys, e1, e2, h1, h2, h3⟩
  · exact .inl z
  · exact .inr (.inl z)
  · exact .inr (.inr (.inl z))
  · exact .inr (.inr (.inr (.inl z)))
  · cases h2 with
    | nil => exact .inr (.inr (.inr (.inr ⟨a, b, _, _, e1, e2, h1, .nil, h3⟩)))
    | cons r _ => exact r.elim
theorem alk_i {H : Hp} {n : Nat} (i : Int) : Alk H (n + 1) (.int i) (.int i) := .inl ⟨i, rfl, rfl⟩
theorem alk_s {H : Hp} {n : Nat} (z : Str) : Alk H (n + 1) (.str z) (.str z) := .inr (.inl ⟨z, rfl, rfl⟩)
theorem alk_ins {H : Hp} {x y : V} : ∀ {i : Ins}, InsAt H x i → InsAt H y i → Alk H 3 x y
  | .ident, ⟨_, e, h⟩, ⟨_, e', h'⟩ => alk_flat e e' h h' (by simp) (.cons (alk_s _) .nil)
  | .lead _ _, ⟨_, e, h⟩, ⟨_, e', h'⟩ => alk_flat e e' h h' (by simp) (.cons (alk_s _) (.cons (alk_i _) (.cons (alk_i _) .nil)))
  | .swap _ _, ⟨_, _, _, e, h, p, q⟩, ⟨_, _, _, e', h', p', q'⟩ => .inr (.inr (.inr (.inr ⟨_, _, _, _, e, e', .inr ⟨h, h'⟩, .cons (alk_s _) (.cons (alk_pl p p') (.cons (alk_pl q q') .nil)), by simp⟩)))
  | .load _, ⟨_, e, h⟩, ⟨_, e', h'⟩ => alk_flat e e' h h' (by simp) (.cons (alk_s _) (.cons (alk_s _) .nil))
  | .comp, ⟨_, e, h⟩, ⟨_, e', h'⟩ => alk_flat e e' h h' (by simp) (.cons (alk_s _) .nil)
  | .conj, ⟨_, e, h⟩, ⟨_, e', h'⟩ => alk_flat e e' h h' (by simp) (.cons (alk_s _) .nil)
  | .pow _, ⟨_, e, h⟩, ⟨_, e', h'⟩ => alk_flat e e' h h' (by simp) (.cons (alk_s _) (.cons (alk_i _) .nil))
def prog : Ex → List Ins
  | .ident => [.ident]
  | .lead i j => [.lead i j]
  | .swap p q => [.swap p q]
  | .name z => [.load z]
  | .prod l r => prog l ++ prog r ++ [.comp]
  | .conj l r => prog l ++ prog r ++ [.conj]
  | .pow x k => prog x ++ [.pow k]
theorem prog_len : ∀ (e : Ex), (prog e).length + 1 ≤ 2 ^ e.dep
  | .ident => by simp [prog, Ex.dep]
  | .lead _ _ => by simp [prog, Ex.dep]
  | .swap _ _ => by simp [prog, Ex.dep]
  | .name _ => by simp [prog, Ex.dep]
  | .prod l r => by
    have h1 := prog_len l
    have h2 := prog_len r
    have e1 : 2 ^ l.dep ≤ 2 ^ max l.dep r.dep := Nat.pow_le_pow_right (by decide) (Nat.le_max_left _ _)
    have e2 : 2 ^ r.dep ≤ 2 ^ max l.dep r.dep := Nat.pow_le_pow_right (by decide) (Nat.le_max_right _ _)
    simp only [prog, Ex.dep, List.length_append, List.length_cons, List.length_nil, Nat.pow_succ]
    omega
  | .conj l r => by
    have h1 := prog_len l
    have h2 := prog_len r
    have e1 : 2 ^ l.dep ≤ 2 ^ max l.dep r.dep := Nat.pow_le_pow_right (by decide) (Nat.le_max_left _ _)
    have e2 : 2 ^ r.dep ≤ 2 ^ max l.dep r.dep := Nat.pow_le_pow_right (by decide) (Nat.le_max_right _ _)
    simp only [prog, Ex.dep, List.length_append, List.length_cons, List.length_nil, Nat.pow_succ]
    omega
  | .pow x _ => by
    have h1 := prog_len x
    simp only [prog, Ex.dep, List.length_append, List.length_cons, List.length_nil, Nat.pow_succ]
    omega
/-- a list of instructions at r -/
def ProgAt (H : Hp) (r : Addr) (is : List Ins) : Prop := ∃ vs, H r = some (.lst vs) ∧ Paired (InsAt H) vs is
theorem ProgAt.mono {H H' : Hp} (s : Same H H') {r : Addr} {is : List Ins} (h : ProgAt H r is) : ProgAt H' r is := let ⟨vs, a, b⟩ := h; ⟨vs, s _ _ a, paired_mono b fun _ _ z => z.mono s⟩
theorem eqS {a b : Str} {p q : Prop} [Decidable (V.str a = V.str b)] (h : a = b) (hp : p) : if decide (V.str a = V.str b) = true then p else q := by
  subst h; rw [if_pos (decide_eq_true rfl)]; exact hp
theorem neS {a b : Str} {p q : Prop} [Decidable (V.str a = V.str b)] (h : a ≠ b) (hq : q) : if decide (V.str a = V.str b) = true then p else q := by
  rw [if_neg (by rw [decide_eq_true_eq]; intro e; injection e with e; exact h e)]; exact hq
section
variable {X : Cx}
theorem op_inQ (K : PySem.W.Frag) (h : X.K = K := by rfl) : OpR X (compareOp .In) (rIn K false) := by subst h; exact op_in_seq
end
section
variable {P : Program} {w : World} {K : PySem.W.Frag} {mg : Str → Option Value} {base : Heap}
def spProg (n : Nat) : Sp := fun vs H Q _ => ∃ v e, vs = [v] ∧ ExAt H e v ∧ e.dep ≤ n ∧ e.dep ≤ 12 ∧ ∀ r H', H r = none → Same H H' → ProgAt H' r (prog e) → Q (.ref r) H'
theorem cal_no {x : Str} {st : Stmt} {ps : List Str} {sp : Sp} {k : Nat} (h : Has K mg x st ps) (no : ∀ vs H Q E, ¬ sp vs H Q E) : C8.Cal P w K mg base k x sp [] := by
  obtain ⟨f, fd, F, b⟩ := h
  exact ⟨f, fd, _, [], ⟨fun vs H Q E z => absurd z (no vs H Q E), fun A outer s H args us vs Q E _ _ _ _ z => absurd z (no vs H Q E)⟩, F.mgf, F.kp, b, .nil⟩
theorem prog_no : ∀ vs H Q E, ¬ spProg 0 vs H Q E := fun vs H Q E z => by
  obtain ⟨v, e, _, _, z, _⟩ := z
  have := e.dep_pos
  omega
theorem iteB {c : Bool} {p q : Prop} (h : c = true) (hp : p) : if c = true then p else q := by rw [if_pos h]; exact hp
theorem iteN {c : Bool} {p q : Prop} (h : c = false) (hq : q) : if c = true then p else q := by rw [if_neg (by rw [h]; decide)]; exact hq
theorem prog_fin {H H3 : Hp} {p l tl : Addr} {us : List V} {is : List Ins} {k : Ins} {Q : VK} (s : Same H H3) (g : H3 p = some (.lst us)) (h : Paired (InsAt H3) us is) (ht : InsAt H3 (.ref tl) k) (n : is.length ≤ 90000) (hl : H3 l = none)
    (q : ∀ r H', H r = none → Same H H' → ProgAt H' r (is ++ [k]) → Q (.ref r) H') : rCat (.ref p) (.ref l) (upd H3 l (.lst [.ref tl])) Q := by
  have l1 := paired_len h
  have s5 := same_new hl (.lst [.ref tl])
  have g5 : upd H3 l (.lst [.ref tl]) l = some (.lst [.ref tl]) := upd_same
  generalize upd H3 l (.lst [.ref tl]) = H5 at s5 g5
  refine ⟨p, l, us, _, rfl, rfl, s5 _ _ g, g5, le_line (by simp; omega), fun r hr => ?_⟩
  have s6 := same_new hr (.lst (us ++ [.ref tl]))
  have s56 := s5.trans s6
  exact q r _ ((s.trans s5).free hr) (s.trans s56) ⟨_, upd_same, paired_app (paired_mono h fun _ _ z => z.mono s56) (.cons (ht.mono s56) .nil)⟩
/-- two programs and a last instruction that stands in a slot -/
theorem prog_two {H H2 : Hp} {r1 r2 tl : Addr} {is js : List Ins} {k : Ins} {σ : St} {i : Nat} {Q : VK} (n : is.length + js.length ≤ 90000) (s : Same H H2) (p1 : ProgAt H2 r1 is) (p2 : ProgAt H2 r2 js) (hσ : σ[i]? = some (some (.ref tl))) (ht : InsAt H2 (.ref tl) k)
    (q : ∀ r H', H r = none → Same H H' → ProgAt H' r (is ++ js ++ [k]) → Q (.ref r) H') :
    rCat (.ref r1) (.ref r2) H2 fun x H3 => ∃ v, σ[i]? = some (some v) ∧ [v].length ≤ sizeLine ∧ ∀ l, H3 l = none → rCat x (.ref l) (upd H3 l (.lst [v])) Q := by
  obtain ⟨us, g1, h1⟩ := p1
  obtain ⟨ws, g2, h2⟩ := p2
  have l1 := paired_len h1
  have l2 := paired_len h2
  refine ⟨r1, r2, us, ws, rfl, rfl, g1, g2, le_line (by omega), fun p hp => ⟨_, hσ, (by show 1 ≤ sizeLine; decide), fun l hl => ?_⟩⟩
  have s3 := same_new hp (.lst (us ++ ws))
  exact prog_fin (s.trans s3) upd_same (paired_app (paired_mono h1 fun _ _ z => z.mono s3) (paired_mono h2 fun _ _ z => z.mono s3)) (ht.mono s3) (by rw [List.length_append]; omega) hl q
/-- two programs and a last instruction -/
theorem prog_join {H H2 : Hp} {r1 r2 : Addr} {is js : List Ins} {k : Ins} {hd : List V} {Q : VK} (n : is.length + js.length ≤ 90000) (s : Same H H2) (p1 : ProgAt H2 r1 is) (p2 : ProgAt H2 r2 js)
    (hk : ∀ (H : Hp) t, H t = some (.tup hd) → InsAt H (.ref t) k) (hl : hd.length ≤ 3)
    (q : ∀ r H', H r = none → Same H H' → ProgAt H' r (is ++ js ++ [k]) → Q (.ref r) H') :
    rCat (.ref r1) (.ref r2) H2 fun x H3 => hd.length ≤ sizeLine ∧ ∀ t, H3 t = none → [V.ref t].length ≤ sizeLine ∧ ∀ l, upd H3 t (.tup hd) l = none → rCat x (.ref l) (upd (upd H3 t (.tup hd)) l (.lst [.ref t])) Q := by
  obtain ⟨us, g1, h1⟩ := p1
  obtain ⟨ws, g2, h2⟩ := p2
  have l1 := paired_len h1
  have l2 := paired_len h2
  refine ⟨r1, r2, us, ws, rfl, rfl, g1, g2, le_line (by omega), fun p hp => ?_⟩
  have s3 := same_new hp (.lst (us ++ ws))
  have g3 : upd H2 p (.lst (us ++ ws)) p = some (.lst (us ++ ws)) := upd_same
  generalize upd H2 p (.lst (us ++ ws)) = H3 at s3 g3
  refine ⟨le_line (by omega), fun t ht => ⟨(by show 1 ≤ sizeLine; decide), fun l hl => ?_⟩⟩
  have s4 := same_new ht (.tup hd)
  have g4 : upd H3 t (.tup hd) t = some (.tup hd) := upd_same
  generalize upd H3 t (.tup hd) = H4 at s4 g4 hl
  have s5 := same_new hl (.lst [.ref t])
  have g5 : upd H4 l (.lst [.ref t]) l = some (.lst [.ref t]) := upd_same
  generalize upd H4 l (.lst [.ref t]) = H5 at s5 g5
  refine ⟨p, l, _, _, rfl, rfl, s5 _ _ (s4 _ _ g3), g5, le_line (by rw [List.length_append]; simp; omega), fun r hr => ?_⟩
  have s25 := s3.trans (s4.trans s5)
  have s6 := same_new hr (.lst (us ++ ws ++ [.ref t]))
  refine q r _ ((s.trans s25).free hr) ((s.trans s25).trans s6) ⟨_, upd_same, ?_⟩
  refine paired_app (paired_app (paired_mono h1 fun _ _ z => z.mono (s25.trans s6)) (paired_mono h2 fun _ _ z => z.mono (s25.trans s6))) (.cons (hk _ _ (s6 _ _ (s5 _ _ g4))) .nil)
theorem sc_comp : FnScope ["tree", "word"] ["tree"] (C8.fnScope sCompiled) := C8.fnScope_by (by decide +kernel)
theorem comp_succ {n : Nat} (h : Has K mg "compiled" sCompiled ["tree"]) (c : C8.Cal P w K mg base n "compiled" (spProg n) []) : C8.Cal P w K mg base (n + 1) "compiled" (spProg (n + 1)) [] := by
  refine cal_of h sc_comp (fun vs H Q E z => ?_) (fun f cdv A outer s H vs Q E hr z => ?_)
  · obtain ⟨v, e, rfl, _⟩ := z; rfl
  obtain ⟨v, e, rfl, he, hn, h12, q⟩ := z
  have nd := sc_comp.nd
  have hlen := prog_len e
  have hpow : 2 ^ e.dep ≤ 2 ^ 12 := Nat.pow_le_pow_right (by decide) h12
  refine ⟨_, (pss_cons (ps_set (i := 1) nd rfl (.inl rfl) (pe_ix (x_tup K) (pv 0) pe_int (fun _ _ => rfl)))
    (pss_cons (ps_if (pt_cmpR op_eq (pv 1) pe_str (nomark _)) (pss_one (ps_ret (pe_op op_cat (pe_op op_cat (C8.pe_c c hr (Nat.le_refl _) rfl (pa_cons (pe_ix (x_tup K) (pv 0) pe_int (fun _ _ => rfl)) pa_nil)) (C8.pe_c c hr (Nat.le_refl _) rfl (pa_cons (pe_ix (x_tup K) (pv 0) pe_int (fun _ _ => rfl)) pa_nil))) (pe_lst (pa_cons (pe_tup (pa_cons pe_str pa_nil)) pa_nil))))) pss_nil)
    (pss_cons (ps_if (pt_cmpR op_eq (pv 1) pe_str (nomark _)) (pss_one (ps_ret (pe_op op_cat (pe_op op_cat (C8.pe_c c hr (Nat.le_refl _) rfl (pa_cons (pe_ix (x_tup K) (pv 0) pe_int (fun _ _ => rfl)) pa_nil)) (C8.pe_c c hr (Nat.le_refl _) rfl (pa_cons (pe_ix (x_tup K) (pv 0) pe_int (fun _ _ => rfl)) pa_nil))) (pe_lst (pa_cons (pe_tup (pa_cons pe_str pa_nil)) pa_nil))))) pss_nil)
    (pss_cons (ps_if (pt_cmpR op_eq (pv 1) pe_str (nomark _)) (pss_one (ps_ret (pe_op op_cat (C8.pe_c c hr (Nat.le_refl _) rfl (pa_cons (pe_ix (x_tup K) (pv 0) pe_int (fun _ _ => rfl)) pa_nil)) (pe_lst (pa_cons (pe_tup (pa_cons pe_str (pa_cons (pe_ix (x_tup K) (pv 0) pe_int (fun _ _ => rfl)) pa_nil))) pa_nil))))) pss_nil)
    (pss_cons (ps_if (pt_cmpR op_eq (pv 1) pe_str (nomark _)) (pss_one (ps_ret (pe_lst (pa_cons (pe_tup (pa_cons pe_str (pa_cons (pe_ix (x_tup K) (pv 0) pe_int (fun _ _ => rfl)) pa_nil))) pa_nil)))) pss_nil)
    (pss_one (ps_ret (pe_lst (pa_cons (pv 0) pa_nil))))))))), ?_⟩
  cases e with
  | prod l r =>
    obtain ⟨t, a, b, rfl, ht, ha, hb⟩ := he
    have hn' : max l.dep r.dep + 1 ≤ n + 1 := hn
    have h12' : max l.dep r.dep + 1 ≤ 12 := h12
    have hlen' : (prog l ++ prog r ++ [Ins.comp]).length + 1 ≤ 2 ^ Ex.dep (.prod l r) := hlen
    rw [List.length_append, List.length_append] at hlen'
    refine ⟨_, rfl, t, _, _, _, rfl, rfl, .inl (.inl ht), rfl, _, rfl, rfl, _, rfl, eqS rfl ?_⟩
    refine ⟨_, rfl, t, _, _, _, rfl, rfl, .inl (.inl ht), rfl, a, l, rfl, ha, by omega, by omega, fun r1 H1 n1 s1 p1 => ?_⟩
    refine ⟨_, rfl, t, _, _, _, rfl, rfl, .inl (.inl (s1 _ _ ht)), rfl, b, r, rfl, hb.mono s1, by omega, by omega, fun r2 H2 n2 s2 p2 => ?_⟩
    exact prog_join (k := .comp) (by omega) (s1.trans s2) (p1.mono s2) p2 (fun _ t e => ⟨t, rfl, e⟩) (by simp) q
  | conj l r =>
    obtain ⟨t, a, b, rfl, ht, ha, hb⟩ := he
    have hn' : max l.dep r.dep + 1 ≤ n + 1 := hn
    have h12' : max l.dep r.dep + 1 ≤ 12 := h12
    have hlen' : (prog l ++ prog r ++ [Ins.conj]).length + 1 ≤ 2 ^ Ex.dep (.conj l r) := hlen
    rw [List.length_append, List.length_append] at hlen'
    refine ⟨_, rfl, t, _, _, _, rfl, rfl, .inl (.inl ht), rfl, _, rfl, rfl, _, rfl, neS (by decide) ⟨_, rfl, rfl, _, rfl, eqS rfl ?_⟩⟩
    refine ⟨_, rfl, t, _, _, _, rfl, rfl, .inl (.inl ht), rfl, a, l, rfl, ha, by omega, by omega, fun r1 H1 n1 s1 p1 => ?_⟩
    refine ⟨_, rfl, t, _, _, _, rfl, rfl, .inl (.inl (s1 _ _ ht)), rfl, b, r, rfl, hb.mono s1, by omega, by omega, fun r2 H2 n2 s2 p2 => ?_⟩
    exact prog_join (k := .conj) (by omega) (s1.trans s2) (p1.mono s2) p2 (fun _ t e => ⟨t, rfl, e⟩) (by simp) q
  | pow x k =>
    obtain ⟨t, a, rfl, ht, ha⟩ := he
    have hn' : x.dep + 1 ≤ n + 1 := hn
    have h12' : x.dep + 1 ≤ 12 := h12
    refine ⟨_, rfl, t, _, _, _, rfl, rfl, .inl (.inl ht), rfl, _, rfl, rfl, _, rfl, neS (by decide) ⟨_, rfl, rfl, _, rfl, neS (by decide) ⟨_, rfl, rfl, _, rfl, eqS rfl ?_⟩⟩⟩
    refine ⟨_, rfl, t, _, _, _, rfl, rfl, .inl (.inl ht), rfl, a, x, rfl, ha, by omega, by omega, fun r1 H1 n1 s1 p1 => ?_⟩
    obtain ⟨us, g1, h1⟩ := p1
    have l1 := paired_len h1
    have hx := prog_len x
    have hxp : 2 ^ x.dep ≤ 2 ^ 12 := Nat.pow_le_pow_right (by decide) (by omega)
    refine ⟨_, rfl, t, _, _, _, rfl, rfl, .inl (.inl (s1 _ _ ht)), rfl, (by show 2 ≤ sizeLine; decide), fun t2 ht2 => ⟨(by show 1 ≤ sizeLine; decide), fun l hl => ?_⟩⟩
    have s4 := same_new ht2 (.tup [.str "power", .int k])
    have g4 : upd H1 t2 (.tup [.str "power", .int k]) t2 = some (.tup [.str "power", .int k]) := upd_same
    generalize upd H1 t2 (.tup [.str "power", .int k]) = H4 at s4 g4 hl
    have s5 := same_new hl (.lst [.ref t2])
    have g5 : upd H4 l (.lst [.ref t2]) l = some (.lst [.ref t2]) := upd_same
    generalize upd H4 l (.lst [.ref t2]) = H5 at s5 g5
    refine ⟨r1, l, us, _, rfl, rfl, s5 _ _ (s4 _ _ g1), g5, le_line (by simp; omega), fun r hr => ?_⟩
    have s15 := s4.trans s5
    have s6 := same_new hr (.lst (us ++ [.ref t2]))
    refine q r _ ((s1.trans s15).free hr) ((s1.trans s15).trans s6) ⟨_, upd_same, ?_⟩
    exact paired_app (paired_mono h1 fun _ _ z => z.mono (s15.trans s6)) (.cons ⟨t2, rfl, s6 _ _ (s5 _ _ g4)⟩ .nil)
  | name z =>
    obtain ⟨t, rfl, ht⟩ := he
    refine ⟨_, rfl, t, _, _, _, rfl, rfl, .inl (.inl ht), rfl, _, rfl, rfl, _, rfl, neS (by decide) ⟨_, rfl, rfl, _, rfl, neS (by decide) ⟨_, rfl, rfl, _, rfl, neS (by decide) ⟨_, rfl, rfl, _, rfl, eqS rfl ?_⟩⟩⟩⟩
    refine ⟨_, rfl, t, _, _, _, rfl, rfl, .inl (.inl ht), rfl, (by show 2 ≤ sizeLine; decide), fun t2 ht2 => ⟨(by show 1 ≤ sizeLine; decide), fun l hl => ?_⟩⟩
    have s4 := same_new ht2 (.tup [.str "load", .str z])
    have g4 : upd H t2 (.tup [.str "load", .str z]) t2 = some (.tup [.str "load", .str z]) := upd_same
    generalize upd H t2 (.tup [.str "load", .str z]) = H4 at s4 g4 hl
    have s5 := same_new hl (.lst [.ref t2])
    exact q l _ (s4.free hl) (s4.trans s5) ⟨_, upd_same, .cons ⟨t2, rfl, s5 _ _ g4⟩ .nil⟩
  | ident =>
    obtain ⟨t, rfl, ht⟩ := he
    refine ⟨_, rfl, t, _, _, _, rfl, rfl, .inl (.inl ht), rfl, _, rfl, rfl, _, rfl, neS (by decide) ⟨_, rfl, rfl, _, rfl, neS (by decide) ⟨_, rfl, rfl, _, rfl, neS (by decide) ⟨_, rfl, rfl, _, rfl, neS (by decide) ?_⟩⟩⟩⟩
    refine ⟨_, rfl, (by show 1 ≤ sizeLine; decide), fun l hl => ?_⟩
    have s5 := same_new hl (.lst [.ref t])
    exact q l _ hl s5 ⟨_, upd_same, .cons ⟨t, rfl, s5 _ _ ht⟩ .nil⟩
  | lead i j =>
    obtain ⟨t, rfl, ht⟩ := he
    refine ⟨_, rfl, t, _, _, _, rfl, rfl, .inl (.inl ht), rfl, _, rfl, rfl, _, rfl, neS (by decide) ⟨_, rfl, rfl, _, rfl, neS (by decide) ⟨_, rfl, rfl, _, rfl, neS (by decide) ⟨_, rfl, rfl, _, rfl, neS (by decide) ?_⟩⟩⟩⟩
    refine ⟨_, rfl, (by show 1 ≤ sizeLine; decide), fun l hl => ?_⟩
    have s5 := same_new hl (.lst [.ref t])
    exact q l _ hl s5 ⟨_, upd_same, .cons ⟨t, rfl, s5 _ _ ht⟩ .nil⟩
  | swap p p' =>
    obtain ⟨t, a, b, rfl, ht, ha, hb⟩ := he
    refine ⟨_, rfl, t, _, _, _, rfl, rfl, .inl (.inl ht), rfl, _, rfl, rfl, _, rfl, neS (by decide) ⟨_, rfl, rfl, _, rfl, neS (by decide) ⟨_, rfl, rfl, _, rfl, neS (by decide) ⟨_, rfl, rfl, _, rfl, neS (by decide) ?_⟩⟩⟩⟩
    refine ⟨_, rfl, (by show 1 ≤ sizeLine; decide), fun l hl => ?_⟩
    have s5 := same_new hl (.lst [.ref t])
    exact q l _ hl s5 ⟨_, upd_same, .cons ⟨t, a, b, rfl, s5 _ _ ht, ha.mono s5, hb.mono s5⟩ .nil⟩
theorem ok_compiled (h : Has K mg "compiled" sCompiled ["tree"]) : ∀ n, C8.Cal P w K mg base n "compiled" (spProg n) []
  | 0 => cal_no h prog_no
  | n + 1 => comp_succ h (ok_compiled h n)
/-! ### the law's own program -/
theorem sc_lprog : FnScope ["_law_tree_here", "_law_last"] ["_law_tree_here"] (C8.fnScope sProgram) := C8.fnScope_by (by decide +kernel)
theorem lprog_succ {n : Nat} (h : Has K mg "_law_program" sProgram ["_law_tree_here"]) (c : C8.Cal P w K mg base n "_law_program" (spProg n) []) : C8.Cal P w K mg base (n + 1) "_law_program" (spProg (n + 1)) [] := by
  refine cal_of h sc_lprog (fun vs H Q E z => ?_) (fun f cdv A outer s H vs Q E hr z => ?_)
  · obtain ⟨v, e, rfl, _⟩ := z; rfl
  obtain ⟨v, e, rfl, he, hn, h12, q⟩ := z
  have nd := sc_lprog.nd
  have hlen := prog_len e
  have hpow : 2 ^ e.dep ≤ 2 ^ 12 := Nat.pow_le_pow_right (by decide) h12
  refine ⟨_, (pss_cons (ps_if (pt_cmpR (op_inQ K) (pe_ix (x_tup K) (pv 0) pe_int (fun _ _ => rfl)) (pe_tup (pa_cons pe_str (pa_cons pe_str pa_nil))) rfl) (pss_cons (ps_set (i := 1) nd rfl (.inl rfl) (pe_ifExp (pt_cmpR op_eq (pe_ix (x_tup K) (pv 0) pe_int (fun _ _ => rfl)) pe_str (nomark _)) (pe_tup (pa_cons pe_str pa_nil)) (pe_tup (pa_cons pe_str pa_nil))))
    (pss_one (ps_ret (pe_op op_cat (pe_op op_cat (C8.pe_c c hr (Nat.le_refl _) rfl (pa_cons (pe_ix (x_tup K) (pv 0) pe_int (fun _ _ => rfl)) pa_nil)) (C8.pe_c c hr (Nat.le_refl _) rfl (pa_cons (pe_ix (x_tup K) (pv 0) pe_int (fun _ _ => rfl)) pa_nil))) (pe_lst (pa_cons (pv 1) pa_nil)))))) pss_nil)
    (pss_cons (ps_if (pt_cmpR op_eq (pe_ix (x_tup K) (pv 0) pe_int (fun _ _ => rfl)) pe_str (nomark _)) (pss_one (ps_ret (pe_op op_cat (C8.pe_c c hr (Nat.le_refl _) rfl (pa_cons (pe_ix (x_tup K) (pv 0) pe_int (fun _ _ => rfl)) pa_nil)) (pe_lst (pa_cons (pe_tup (pa_cons pe_str (pa_cons (pe_ix (x_tup K) (pv 0) pe_int (fun _ _ => rfl)) pa_nil))) pa_nil))))) pss_nil)
    (pss_one (ps_ret (pe_ifExp (pt_cmpR op_eq (pe_ix (x_tup K) (pv 0) pe_int (fun _ _ => rfl)) pe_str (nomark _)) (pe_lst (pa_cons (pe_tup (pa_cons pe_str (pa_cons (pe_ix (x_tup K) (pv 0) pe_int (fun _ _ => rfl)) pa_nil))) pa_nil)) (pe_lst (pa_cons (pv 0) pa_nil))))))), ?_⟩
  cases e with
  | prod l r =>
    obtain ⟨t, a, b, rfl, ht, ha, hb⟩ := he
    have hn' : max l.dep r.dep + 1 ≤ n + 1 := hn
    have h12' : max l.dep r.dep + 1 ≤ 12 := h12
    have hlen' : (prog l ++ prog r ++ [Ins.comp]).length + 1 ≤ 2 ^ Ex.dep (.prod l r) := hlen
    rw [List.length_append, List.length_append] at hlen'
    refine ⟨_, rfl, t, _, _, _, rfl, rfl, .inl (.inl ht), rfl, (by show 2 ≤ sizeLine; decide), fun tp htp => ⟨tp, _, rfl, .inr (.inl (.inl upd_same)), rfl, rfl, _, rfl, iteB (by decide) ?_⟩⟩
    have s0 := same_new htp (.tup [.str "product", .str "conjugate"])
    generalize upd H tp (.tup [.str "product", .str "conjugate"]) = H0 at s0
    refine ⟨_, rfl, t, _, _, _, rfl, rfl, .inl (.inl (s0 _ _ ht)), rfl, rfl, _, rfl, eqS rfl ⟨(by show 1 ≤ sizeLine; decide), fun tl htl => ?_⟩⟩
    have s1 := s0.trans (same_new htl (.tup [.str "compose"]))
    have gl : upd H0 tl (.tup [.str "compose"]) tl = some (.tup [.str "compose"]) := upd_same
    generalize upd H0 tl (.tup [.str "compose"]) = H1 at s1 gl
    refine ⟨_, rfl, t, _, _, _, rfl, rfl, .inl (.inl (s1 _ _ ht)), rfl, a, l, rfl, ha.mono s1, by omega, by omega, fun r1 H2 n1 s2 p1 => ?_⟩
    have s02 := s1.trans s2
    refine ⟨_, rfl, t, _, _, _, rfl, rfl, .inl (.inl (s02 _ _ ht)), rfl, b, r, rfl, hb.mono s02, by omega, by omega, fun r2 H3 n2 s3 p2 => ?_⟩
    exact prog_two (k := .comp) (by omega) (s02.trans s3) (p1.mono s3) p2 rfl ⟨tl, rfl, s3 _ _ (s2 _ _ gl)⟩ q
  | conj l r =>
    obtain ⟨t, a, b, rfl, ht, ha, hb⟩ := he
    have hn' : max l.dep r.dep + 1 ≤ n + 1 := hn
    have h12' : max l.dep r.dep + 1 ≤ 12 := h12
    have hlen' : (prog l ++ prog r ++ [Ins.conj]).length + 1 ≤ 2 ^ Ex.dep (.conj l r) := hlen
    rw [List.length_append, List.length_append] at hlen'
    refine ⟨_, rfl, t, _, _, _, rfl, rfl, .inl (.inl ht), rfl, (by show 2 ≤ sizeLine; decide), fun tp htp => ⟨tp, _, rfl, .inr (.inl (.inl upd_same)), rfl, rfl, _, rfl, iteB (by decide) ?_⟩⟩
    have s0 := same_new htp (.tup [.str "product", .str "conjugate"])
    generalize upd H tp (.tup [.str "product", .str "conjugate"]) = H0 at s0
    refine ⟨_, rfl, t, _, _, _, rfl, rfl, .inl (.inl (s0 _ _ ht)), rfl, rfl, _, rfl, neS (by decide) ⟨(by show 1 ≤ sizeLine; decide), fun tl htl => ?_⟩⟩
    have s1 := s0.trans (same_new htl (.tup [.str "conjugate"]))
    have gl : upd H0 tl (.tup [.str "conjugate"]) tl = some (.tup [.str "conjugate"]) := upd_same
    generalize upd H0 tl (.tup [.str "conjugate"]) = H1 at s1 gl
    refine ⟨_, rfl, t, _, _, _, rfl, rfl, .inl (.inl (s1 _ _ ht)), rfl, a, l, rfl, ha.mono s1, by omega, by omega, fun r1 H2 n1 s2 p1 => ?_⟩
    have s02 := s1.trans s2
    refine ⟨_, rfl, t, _, _, _, rfl, rfl, .inl (.inl (s02 _ _ ht)), rfl, b, r, rfl, hb.mono s02, by omega, by omega, fun r2 H3 n2 s3 p2 => ?_⟩
    exact prog_two (k := .conj) (by omega) (s02.trans s3) (p1.mono s3) p2 rfl ⟨tl, rfl, s3 _ _ (s2 _ _ gl)⟩ q
  | pow x k =>
    obtain ⟨t, a, rfl, ht, ha⟩ := he
    have hn' : x.dep + 1 ≤ n + 1 := hn
    have h12' : x.dep + 1 ≤ 12 := h12
    refine ⟨_, rfl, t, _, _, _, rfl, rfl, .inl (.inl ht), rfl, (by show 2 ≤ sizeLine; decide), fun tp htp => ⟨tp, _, rfl, .inr (.inl (.inl upd_same)), rfl, rfl, _, rfl, iteN (by decide) ?_⟩⟩
    have s0 := same_new htp (.tup [.str "product", .str "conjugate"])
    generalize upd H tp (.tup [.str "product", .str "conjugate"]) = H0 at s0
    refine ⟨_, rfl, t, _, _, _, rfl, rfl, .inl (.inl (s0 _ _ ht)), rfl, rfl, _, rfl, eqS rfl ?_⟩
    refine ⟨_, rfl, t, _, _, _, rfl, rfl, .inl (.inl (s0 _ _ ht)), rfl, a, x, rfl, ha.mono s0, by omega, by omega, fun r1 H1 n1 s1 p1 => ?_⟩
    obtain ⟨us, g1, h1⟩ := p1
    have l1 := paired_len h1
    have hx := prog_len x
    have hxp : 2 ^ x.dep ≤ 2 ^ 12 := Nat.pow_le_pow_right (by decide) (by omega)
    have s01 := s0.trans s1
    refine ⟨_, rfl, t, _, _, _, rfl, rfl, .inl (.inl (s01 _ _ ht)), rfl, (by show 2 ≤ sizeLine; decide), fun t2 ht2 => ⟨(by show 1 ≤ sizeLine; decide), fun l hl => ?_⟩⟩
    have s4 := same_new ht2 (.tup [.str "power", .int k])
    have g4 : upd H1 t2 (.tup [.str "power", .int k]) t2 = some (.tup [.str "power", .int k]) := upd_same
    generalize upd H1 t2 (.tup [.str "power", .int k]) = H4 at s4 g4 hl
    exact prog_fin (s01.trans s4) (s4 _ _ g1) (paired_mono h1 fun _ _ z => z.mono s4) (k := .pow k) ⟨t2, rfl, g4⟩ (by omega) hl q
  | name z =>
    obtain ⟨t, rfl, ht⟩ := he
    refine ⟨_, rfl, t, _, _, _, rfl, rfl, .inl (.inl ht), rfl, (by show 2 ≤ sizeLine; decide), fun tp htp => ⟨tp, _, rfl, .inr (.inl (.inl upd_same)), rfl, rfl, _, rfl, iteN (by decide) ?_⟩⟩
    have s0 := same_new htp (.tup [.str "product", .str "conjugate"])
    generalize upd H tp (.tup [.str "product", .str "conjugate"]) = H0 at s0
    refine ⟨_, rfl, t, _, _, _, rfl, rfl, .inl (.inl (s0 _ _ ht)), rfl, rfl, _, rfl, neS (by decide) ?_⟩
    refine ⟨_, rfl, t, _, _, _, rfl, rfl, .inl (.inl (s0 _ _ ht)), rfl, rfl, _, rfl, eqS rfl ?_⟩
    refine ⟨_, rfl, t, _, _, _, rfl, rfl, .inl (.inl (s0 _ _ ht)), rfl, (by show 2 ≤ sizeLine; decide), fun t2 ht2 => ⟨(by show 1 ≤ sizeLine; decide), fun l hl => ?_⟩⟩
    have s4 := same_new ht2 (.tup [.str "load", .str z])
    have g4 : upd H0 t2 (.tup [.str "load", .str z]) t2 = some (.tup [.str "load", .str z]) := upd_same
    generalize upd H0 t2 (.tup [.str "load", .str z]) = H4 at s4 g4 hl
    have s5 := same_new hl (.lst [.ref t2])
    exact q l _ ((s0.trans s4).free hl) ((s0.trans s4).trans s5) ⟨_, upd_same, .cons ⟨t2, rfl, s5 _ _ g4⟩ .nil⟩
  | ident =>
    obtain ⟨t, rfl, ht⟩ := he
    refine ⟨_, rfl, t, _, _, _, rfl, rfl, .inl (.inl ht), rfl, (by show 2 ≤ sizeLine; decide), fun tp htp => ⟨tp, _, rfl, .inr (.inl (.inl upd_same)), rfl, rfl, _, rfl, iteN (by decide) ?_⟩⟩
    have s0 := same_new htp (.tup [.str "product", .str "conjugate"])
    generalize upd H tp (.tup [.str "product", .str "conjugate"]) = H0 at s0
    refine ⟨_, rfl, t, _, _, _, rfl, rfl, .inl (.inl (s0 _ _ ht)), rfl, rfl, _, rfl, neS (by decide) ?_⟩
    refine ⟨_, rfl, t, _, _, _, rfl, rfl, .inl (.inl (s0 _ _ ht)), rfl, rfl, _, rfl, neS (by decide) ?_⟩
    refine ⟨_, rfl, (by show 1 ≤ sizeLine; decide), fun l hl => ?_⟩
    have s5 := same_new hl (.lst [.ref t])
    exact q l _ (s0.free hl) (s0.trans s5) ⟨_, upd_same, .cons ⟨t, rfl, s5 _ _ (s0 _ _ ht)⟩ .nil⟩
  | lead i j =>
    obtain ⟨t, rfl, ht⟩ := he
    refine ⟨_, rfl, t, _, _, _, rfl, rfl, .inl (.inl ht), rfl, (by show 2 ≤ sizeLine; decide), fun tp htp => ⟨tp, _, rfl, .inr (.inl (.inl upd_same)), rfl, rfl, _, rfl, iteN (by decide) ?_⟩⟩
    have s0 := same_new htp (.tup [.str "product", .str "conjugate"])
    generalize upd H tp (.tup [.str "product", .str "conjugate"]) = H0 at s0
    refine ⟨_, rfl, t, _, _, _, rfl, rfl, .inl (.inl (s0 _ _ ht)), rfl, rfl, _, rfl, neS (by decide) ?_⟩
    refine ⟨_, rfl, t, _, _, _, rfl, rfl, .inl (.inl (s0 _ _ ht)), rfl, rfl, _, rfl, neS (by decide) ?_⟩
    refine ⟨_, rfl, (by show 1 ≤ sizeLine; decide), fun l hl => ?_⟩
    have s5 := same_new hl (.lst [.ref t])
    exact q l _ (s0.free hl) (s0.trans s5) ⟨_, upd_same, .cons ⟨t, rfl, s5 _ _ (s0 _ _ ht)⟩ .nil⟩
  | swap p p' =>
    obtain ⟨t, a, b, rfl, ht, ha, hb⟩ := he
    refine ⟨_, rfl, t, _, _, _, rfl, rfl, .inl (.inl ht), rfl, (by show 2 ≤ sizeLine; decide), fun tp htp => ⟨tp, _, rfl, .inr (.inl (.inl upd_same)), rfl, rfl, _, rfl, iteN (by decide) ?_⟩⟩
    have s0 := same_new htp (.tup [.str "product", .str "conjugate"])
    generalize upd H tp (.tup [.str "product", .str "conjugate"]) = H0 at s0
    refine ⟨_, rfl, t, _, _, _, rfl, rfl, .inl (.inl (s0 _ _ ht)), rfl, rfl, _, rfl, neS (by decide) ?_⟩
    refine ⟨_, rfl, t, _, _, _, rfl, rfl, .inl (.inl (s0 _ _ ht)), rfl, rfl, _, rfl, neS (by decide) ?_⟩
    refine ⟨_, rfl, (by show 1 ≤ sizeLine; decide), fun l hl => ?_⟩
    have s5 := same_new hl (.lst [.ref t])
    exact q l _ (s0.free hl) (s0.trans s5) ⟨_, upd_same, .cons ⟨t, a, b, rfl, s5 _ _ (s0 _ _ ht), (ha.mono s0).mono s5, (hb.mono s0).mono s5⟩ .nil⟩
theorem ok_lprog (h : Has K mg "_law_program" sProgram ["_law_tree_here"]) : ∀ n, C8.Cal P w K mg base n "_law_program" (spProg n) []
  | 0 => cal_no h prog_no
  | n + 1 => lprog_succ h (ok_lprog h n)
end
end L2.FK
/-! The law's drawn trees. -/
namespace L2.FK
open PySem PySem.Spec PyProof.Rows L2.FL
section
variable {P : Program} {w : World} {K : PySem.W.Frag} {mg : Str → Option Value} {base : Heap}
def spOf : Sp := fun vs H Q _ => ∃ (b sa l : Addr) (xs : List V), vs = [.ref b, .ref l] ∧ BagAt H b sa ∧ l ≠ b ∧ H l = some (.lst xs) ∧ 0 < xs.length ∧ xs.length ≤ 100 ∧ ∀ (i : Nat) (x : V) H', xs[i]? = some x → Same (del b H) (del b H') → BagAt H' b sa → Q x H'
theorem sc_of : FnScope ["_law_bag_here", "_law_some"] ["_law_bag_here", "_law_some"] (C8.fnScope sOf) := C8.fnScope_by (by decide +kernel)
theorem ok_of (h : Has K mg "_law_of" sOf ["_law_bag_here", "_law_some"]) (B : Bl mg) (c : C8.Cal P w K mg base 1 "_law_pull" spPull []) : C8.Cal P w K mg base 2 "_law_of" spOf [] := by
  refine cal_of h sc_of (fun vs H Q E z => ?_) (fun f cdv A outer s H vs Q E hr z => ?_)
  · obtain ⟨b, sa, l, xs, rfl, _⟩ := z; rfl
  obtain ⟨b, sa, l, xs, rfl, hb, nl, hl, h0, h1, q⟩ := z
  refine ⟨_, (pss_one (ps_ret (pe_ix (x_list K) (pv 1) (C8.pe_c c hr (by decide) rfl (pa_cons (pv 0) (pa_cons (pe_callB (c_len K) (by rfl) B.len bt_len (pa_cons (pv 1) pa_nil)) pa_nil))) (fun _ _ => rfl)))), ?_⟩
  refine ⟨_, rfl, _, rfl, _, rfl, l, xs, rfl, .inl (SqL.of hl), b, sa, _, rfl, hb, by omega, by omega, fun r H' r0 r1 s' hb' => ?_⟩
  have g : H' l = some (.lst xs) := del_same _ _ (s' _ _ (by rw [del_ne nl]; exact hl))
  obtain ⟨n, rfl⟩ : ∃ n : Nat, r = (n : Int) := ⟨r.toNat, by omega⟩
  have hn : n < xs.length := by omega
  exact ⟨l, xs, _, xs[n], rfl, rfl, SqL.of g, atI_nat (List.getElem?_eq_getElem hn), q n _ H' (List.getElem?_eq_getElem hn) s' hb'⟩
/-! ### _law_move -/
abbrev nMove : List Str := ["_law_bag_here", "_law_wide", "_law_source", "_law_ends", "_law_k"]
def spMove : Sp := fun vs H Q _ => ∃ (b sa : Addr) (n : Nat), vs = [.ref b, .int n] ∧ BagAt H b sa ∧ 1 ≤ n ∧ n ≤ 6 ∧ ∀ r H' e, Same (del b H) (del b H') → BagAt H' b sa → ExAt (del b H') e r → e.dep = 1 → Q r H'
theorem sc_move : FnScope nMove ["_law_bag_here", "_law_wide"] (C8.fnScope sMove) := C8.fnScope_by (by decide +kernel)
theorem ok_move (h : Has K mg "_law_move" sMove ["_law_bag_here", "_law_wide"]) (B : Bl mg) (c : C8.Cal P w K mg base 1 "_law_pull" spPull []) : C8.Cal P w K mg base 2 "_law_move" spMove [] := by
  refine cal_of h sc_move (fun vs H Q E z => ?_) (fun f cdv A outer s H vs Q E hr z => ?_)
  · obtain ⟨b, sa, n, rfl, _⟩ := z; rfl
  obtain ⟨b, sa, n, rfl, hb, n1, n6, q⟩ := z
  have nd := sc_move.nd
  refine ⟨_, (C8.pss_cut (ps_if (PW.pt (pw_and (pt_cmpR op_gt (pv 1) pe_int (nomark _)) (pw_and1 (pt_cmpR op_eq (C8.pe_c c hr (by decide) rfl (pa_cons (pv 0) (pa_cons pe_int pa_nil))) pe_int (nomark _))))) (pss_cons (ps_set (i := 2) nd rfl (.inl rfl) (C8.pe_c c hr (by decide) rfl (pa_cons (pv 0) (pa_cons (pv 1) pa_nil))))
    (pss_one (ps_ret (pe_tup (pa_cons pe_str (pa_cons (pv 2) (pa_cons (pe_op op_mod (pe_op op_add (pe_op op_add (pv 2) pe_int) (C8.pe_c c hr (by decide) rfl (pa_cons (pv 0) (pa_cons (pe_op op_sub (pv 1) pe_int) pa_nil)))) (pv 1)) pa_nil))))))) pss_nil)
    (pss_cons (ps_setLc (i := 3) (own := [("_law_k", 4)]) (g := (gName 4)) (tt := tYes) rfl nd rfl rfl (sw_true rfl rfl rfl (by decide +kernel)) (pi_range1 rfl B.range (pa_cons pe_int pa_nil)) (blkOk_by (own := [("_law_k", 4)]) (N := nMove) (sc := C8.fnScope sMove) (by decide +kernel)) (fun _ _ _ _ _ => (pg_name (i := 4) nd rfl (.inl rfl))) (fun _ _ _ _ _ => pts_nil) (fun _ _ _ _ _ => (pe_tup (pa_cons (C8.pe_c c hr (by decide) rfl (pa_cons (pv 0) (pa_cons (pv 1) pa_nil))) (pa_cons (C8.pe_c c hr (by decide) rfl (pa_cons (pv 0) (pa_cons pe_int pa_nil))) pa_nil)))))
    (pss_one (ps_ret (pe_tup (pa_cons pe_str (pa_cons (pe_ix (x_list K) (pv 3) pe_int (fun _ _ => rfl)) (pa_cons (pe_ix (x_list K) (pv 3) pe_int (fun _ _ => rfl)) pa_nil)))))))), ?_⟩
  refine ⟨fun σ H' => Same (del b H) (del b H') ∧ BagAt H' b sa ∧ ∃ x2 x3 x4, σ = [some (.ref b), some (.int n), x2, x3, x4], ?_, ?_⟩
  · refine ⟨_, rfl, _, _, rfl, rfl, _, rfl, ite2 (fun c1 => ?_) (fun _ => ⟨Same.refl _, hb, _, _, _, rfl⟩)⟩
    have c1 : (1 : Int) < (n : Int) := of_decide_eq_true c1
    refine ⟨_, rfl, b, sa, _, rfl, hb, by decide, by decide, fun r H1 r0 r1 s1 b1 => ⟨rfl, _, rfl, ite2 (fun _ => ?_) (fun _ => ⟨s1, b1, _, _, _, rfl⟩)⟩⟩
    refine ⟨_, rfl, _, rfl, b, sa, _, rfl, b1, by omega, by omega, fun r2 H2 r20 r21 s2 b2 => ?_⟩
    refine ⟨_, rfl, _, rfl, _, _, rfl, rfl, _, rfl, _, rfl, _, _, rfl, rfl, b, sa, _, rfl, b2, by omega, by omega, fun r3 H3 r30 r31 s3 b3 => ?_⟩
    refine ⟨_, _, rfl, rfl, _, rfl, _, _, rfl, rfl, (by show (0 : Int) < n; omega), (by show 3 ≤ sizeLine; decide), fun t ht => ?_⟩
    obtain ⟨nb, _⟩ := b3.old ht
    refine q _ _ (.lead r2 ((r2 + 1 + r3) % n)) (s1.trans (s2.trans (s3.trans (same_dels (same_new ht _))))) (b3.mono (same_new ht _)) ⟨t, rfl, ?_⟩ rfl
    rw [del_ne nb.symm, upd_same]
  · rintro σ H1 ⟨s1, b1, x2, x3, x4, rfl⟩
    refine ⟨_, rfl, by decide, by decide, fun D hD => ?_⟩
    obtain ⟨nb, nsa⟩ := b1.old hD
    refine lc_it (walk_range (lo := 0) (n := 2)) (fun i H' => Same (del b H1) (del D (del b H')) ∧ BagAt H' b sa ∧ ∃ us ps, H' D = some (.lst us) ∧ us.length = i ∧ Paired (PlAt (del D (del b H'))) us ps) ?_ ?_ ?_ ?_
    · refine ⟨?_, b1.put nb nsa, [], [], upd_same, rfl, .nil⟩
      rw [del_del, del_upd, del_del]
      exact same_del (Same.refl _) (none_del hD)
    · rintro i H' _ _; trivial
    · rintro i x H2 H3 hi ⟨s2, b2, us, ps, g2, hl, hp⟩ ⟨rfl, rfl⟩
      refine ⟨rfl, _, rfl, _, rfl, b, sa, _, rfl, b2, by omega, by omega, fun r H4 r0 r1 s4 b4 => ?_⟩
      refine ⟨_, rfl, b, sa, _, rfl, b4, by decide, by decide, fun r' H5 r0' r1' s5 b5 => ⟨(by show 2 ≤ sizeLine; decide), fun t ht => ?_⟩⟩
      have s35 := s4.trans s5
      have g5 : H5 D = some (.lst us) := (of_del (s35 _ _ (by rw [del_ne nb.symm]; exact g2))).1
      have ntD : t ≠ D := (ne_of_none g5 ht).symm
      obtain ⟨nbt, nst⟩ := b5.old ht
      have g6 : upd H5 t (.tup [.int r, .int r']) D = some (.lst us) := by rw [upd_ne ntD.symm]; exact g5
      refine ⟨us, g6, snoc_le (by omega), ?_⟩
      have sT := same_new ht (.tup [.int r, .int r'])
      have gT : upd H5 t (.tup [.int r, .int r']) t = some (.tup [.int r, .int r']) := upd_same
      have b6 := b5.mono sT
      generalize upd H5 t (.tup [.int r, .int r']) = H6 at sT gT b6 g6
      have s36 : Same (del D (del b H3)) (del D (del b H6)) := same_dels (s35.trans (same_dels sT))
      have ed : del D (del b (upd H6 D (.lst (us ++ [.ref t])))) = del D (del b H6) := by rw [del_upd_ne nb.symm, del_upd]
      refine ⟨by rw [ed]; exact s2.trans s36, b6.put nb nsa, us ++ [.ref t], ps ++ [(r, r')], upd_same, by simp [hl], ?_⟩
      rw [ed]
      refine paired_snoc (pls_mono s36 hp) ⟨t, rfl, ?_⟩
      rw [del_ne ntD, del_ne nbt.symm]; exact gT
    · rintro H2 ⟨s2, b2, us, ps, g2, hl, hp⟩
      match us, hl, hp with
      | [u1, u2], _, .cons (b := p1) h1 (.cons (b := p2) h2 .nil) =>
        refine ⟨_, rfl, D, _, _, _, rfl, rfl, SqL.of g2, rfl, _, rfl, D, _, _, _, rfl, rfl, SqL.of g2, rfl, (by show 3 ≤ sizeLine; decide), fun t ht => ?_⟩
        obtain ⟨nbt, _⟩ := b2.old ht
        have sT := same_new ht (.tup [.str "swap", u1, u2])
        have z : Same (del D (del b H2)) (del b (upd H2 t (.tup [.str "swap", u1, u2]))) := del_same.trans (same_dels sT)
        refine q _ _ (.swap p1 p2) (s1.trans (s2.trans z)) (b2.mono sT) ⟨t, u1, u2, rfl, ?_, h1.mono z, h2.mono z⟩ rfl
        rw [del_ne nbt.symm, upd_same]
/-! ### _law_names -/
abbrev nNames : List Str := ["_law_bag_here", "_law_many", "_law_letters", "_law_first", "_law_step", "_law_after", "_law_front", "_law_k"]
def spNames : Sp := fun vs H Q _ => ∃ (b sa : Addr) (n : Nat), vs = [.ref b, .int n] ∧ BagAt H b sa ∧ n ≤ 100 ∧ ∀ l H' (zs : List Str), Same (del b H) (del b H') → BagAt H' b sa → del b H' l = some (.lst (zs.map V.str)) → zs.length = n → (∀ z ∈ zs, PyData.strOk z = true) → Q (.ref l) H'
theorem sc_names : FnScope nNames ["_law_bag_here", "_law_many"] (C8.fnScope sNames) := C8.fnScope_by (by decide +kernel)
theorem ok_app {a b : Str} (h1 : PyData.strOk a = true) (h2 : PyData.strOk b = true) : PyData.strOk (a ++ b) = true := by
  show (a.cps ++ b.cps).all _ = true
  rw [Array.all_append]
  exact Bool.and_eq_true_iff.mpr ⟨h1, h2⟩
theorem ok_one {c : Nat} (h : c < 0x110000) : PyData.strOk ⟨#[c]⟩ = true := by
  simp [PyData.strOk, h]
theorem str_len (a b : Str) : (a ++ b).length = a.length + b.length := by
  show (a.cps ++ b.cps).size = a.cps.size + b.cps.size
  exact Array.size_append
theorem of_ints {xs : List Int} {i : Nat} {x : V} (h : (xs.map V.int)[i]? = some x) : ∃ m ∈ xs, x = .int m := by
  rw [List.getElem?_map] at h
  cases e : xs[i]? with
  | none => rw [e] at h; cases h
  | some m => rw [e] at h; cases h; exact ⟨m, List.mem_of_getElem? e, rfl⟩
theorem of_strs {xs : List Str} {i : Nat} {x : V} (h : (xs.map V.str)[i]? = some x) : ∃ m ∈ xs, x = .str m := by
  rw [List.getElem?_map] at h
  cases e : xs[i]? with
  | none => rw [e] at h; cases h
  | some m => rw [e] at h; cases h; exact ⟨m, List.mem_of_getElem? e, rfl⟩
theorem ok_names (h : Has K mg "_law_names" sNames ["_law_bag_here", "_law_many"]) (B : Bl mg) (c : C8.Cal P w K mg base 1 "_law_pull" spPull []) (cO : C8.Cal P w K mg base 2 "_law_of" spOf []) : C8.Cal P w K mg base 3 "_law_names" spNames [] := by
  refine cal_of h sc_names (fun vs H Q E z => ?_) (fun f cdv A outer s H vs Q E hr z => ?_)
  · obtain ⟨b, sa, n, rfl, _⟩ := z; rfl
  obtain ⟨b, sa, n, rfl, hb, n1, q⟩ := z
  have nd := sc_names.nd
  refine ⟨_, (pss_cons (ps_set (i := 2) nd rfl (.inr rfl) pe_str)
    (pss_cons (ps_asg (pe_tup (pa_cons (C8.pe_c c hr (by decide) rfl (pa_cons (pv 0) (pa_cons pe_int pa_nil))) (pa_cons (C8.pe_c cO hr (by decide) rfl (pa_cons (pv 0) (pa_cons (pe_lst (pa_cons pe_int (pa_cons pe_int (pa_cons pe_int (pa_cons pe_int (pa_cons pe_int pa_nil)))))) pa_nil))) pa_nil))) (pg_tup (by rfl) (pgs_cons (pg_name (i := 3) nd rfl (.inr rfl)) (pgs_cons (pg_name (i := 4) nd rfl (.inr rfl)) pgs_nil))))
    (pss_cons (ps_asg (pe_tup (pa_cons (C8.pe_c cO hr (by decide) rfl (pa_cons (pv 0) (pa_cons (pe_lst (pa_cons pe_str (pa_cons pe_str (pa_cons pe_str (pa_cons pe_str pa_nil))))) pa_nil))) (pa_cons (C8.pe_c cO hr (by decide) rfl (pa_cons (pv 0) (pa_cons (pe_lst (pa_cons pe_str (pa_cons pe_str (pa_cons pe_str pa_nil)))) pa_nil))) pa_nil))) (pg_tup (by rfl) (pgs_cons (pg_name (i := 5) nd rfl (.inr rfl)) (pgs_cons (pg_name (i := 6) nd rfl (.inr rfl)) pgs_nil))))
    (pss_one (ps_ret (pe_lc (own := [("_law_k", 7)]) (g := (gName 7)) (tt := tYes) rfl nd (pi_range1 rfl B.range (pa_cons (pv 1) pa_nil)) (blkOk_by (own := [("_law_k", 7)]) (N := nNames) (sc := C8.fnScope sNames) (by decide +kernel)) (fun _ _ _ _ _ => (pg_name (i := 7) nd rfl (.inl rfl))) (fun _ _ _ _ _ => pts_nil) (fun _ _ _ _ _ => (pe_op op_add_str (pe_op op_add_str (pv 6) (pe_ix ix_str (pv 2) (pe_op op_mod (pe_op op_add (pv 3) (pe_op op_mul (pv 4) (pv 7))) pe_int) (fun _ _ => rfl))) (pv 5))))))))), ?_⟩
  refine ⟨_, rfl, b, sa, _, rfl, hb, by decide, by decide, fun r H1 r0 r1 s1 b1 => ?_⟩
  refine ⟨_, rfl, (by show 5 ≤ sizeLine; decide), fun l1 hl1 => ?_⟩
  obtain ⟨nb1, _⟩ := b1.old hl1
  refine ⟨b, sa, l1, [1, 3, 5, 7, 11].map V.int, rfl, b1.mono (same_new hl1 _), nb1.symm, upd_same, by decide, by decide, fun i1 x1 H2 hx1 s2 b2 => ?_⟩
  obtain ⟨m, hm, rfl⟩ := of_ints hx1
  have hm : 1 ≤ m ∧ m ≤ 11 := by simp at hm; omega
  have s12 := s1.trans ((same_dels (same_new hl1 _)).trans s2)
  refine ⟨(by show 2 ≤ sizeLine; decide), fun t1 ht1 => ⟨t1, _, rfl, .inl (.inl upd_same), rfl, ?_⟩⟩
  have sT1 := same_new ht1 (.tup [.int r, .int m])
  have b3 := b2.mono sT1
  generalize upd H2 t1 (.tup [.int r, .int m]) = H3 at sT1 b3
  have s13 := s12.trans (same_dels sT1)
  refine ⟨_, _, rfl, _, _, rfl, rfl, ?_⟩
  refine ⟨_, rfl, (by show 4 ≤ sizeLine; decide), fun l2 hl2 => ?_⟩
  obtain ⟨nb2, _⟩ := b3.old hl2
  refine ⟨b, sa, l2, (["", "q", "zz", "mnopq"] : List Str).map V.str, rfl, b3.mono (same_new hl2 _), nb2.symm, upd_same, by decide, by decide, fun i2 x2 H4 hx2 s4 b4 => ?_⟩
  obtain ⟨z1, hz1, rfl⟩ := of_strs hx2
  have s14 := s13.trans ((same_dels (same_new hl2 _)).trans s4)
  refine ⟨_, rfl, (by show 3 ≤ sizeLine; decide), fun l3 hl3 => ?_⟩
  obtain ⟨nb3, _⟩ := b4.old hl3
  refine ⟨b, sa, l3, (["", "a", "xy"] : List Str).map V.str, rfl, b4.mono (same_new hl3 _), nb3.symm, upd_same, by decide, by decide, fun i3 x3 H5 hx3 s5 b5 => ?_⟩
  obtain ⟨z2, hz2, rfl⟩ := of_strs hx3
  have s15 := s14.trans ((same_dels (same_new hl3 _)).trans s5)
  refine ⟨(by show 2 ≤ sizeLine; decide), fun t2 ht2 => ⟨t2, _, rfl, .inl (.inl upd_same), rfl, ?_⟩⟩
  have sT2 := same_new ht2 (.tup [.str z1, .str z2])
  have b6 := b5.mono sT2
  generalize upd H5 t2 (.tup [.str z1, .str z2]) = H6 at sT2 b6
  have s16 := s15.trans (same_dels sT2)
  refine ⟨_, _, rfl, _, _, rfl, rfl, ?_⟩
  have l1 : z1.length ≤ 5 := by
    simp at hz1
    rcases hz1 with rfl | rfl | rfl | rfl <;> decide +kernel
  have l2 : z2.length ≤ 2 := by
    simp at hz2
    rcases hz2 with rfl | rfl | rfl <;> decide +kernel
  have o1 : PyData.strOk z1 = true := by
    simp at hz1
    rcases hz1 with rfl | rfl | rfl | rfl <;> decide +kernel
  have o2 : PyData.strOk z2 = true := by
    simp at hz2
    rcases hz2 with rfl | rfl | rfl <;> decide +kernel
  refine ⟨_, rfl, _, rfl, by omega, by omega, fun D hD => ?_⟩
  obtain ⟨nb, nsa⟩ := b6.old hD
  rw [Int.toNat_natCast]
  refine lc_it (walk_range (lo := 0) (n := n)) (fun i H' => Same (del b H6) (del D (del b H')) ∧ BagAt H' b sa ∧ ∃ zs : List Str, H' D = some (.lst (zs.map V.str)) ∧ zs.length = i ∧ ∀ z ∈ zs, PyData.strOk z = true) ?_ ?_ ?_ ?_
  · refine ⟨?_, b6.put nb nsa, [], upd_same, rfl, fun z hz => by cases hz⟩
    rw [del_del, del_upd, del_del]
    exact same_del (Same.refl _) (none_del hD)
  · rintro i H' _ _; trivial
  · rintro i x H7 H8 hi ⟨s7, b7, zs, g7, hl, hok⟩ ⟨rfl, rfl⟩
    obtain ⟨j, hj, hj'⟩ : ∃ j : Nat, (r + m * (0 + (i : Int))) % 26 = (j : Int) ∧ j < 26 := by
      have e1 := Int.emod_nonneg (r + m * (0 + (i : Int))) (show (26 : Int) ≠ 0 by decide)
      have e2 := Int.emod_lt_of_pos (r + m * (0 + (i : Int))) (show (0 : Int) < 26 by decide)
      exact ⟨((r + m * (0 + (i : Int))) % 26).toNat, by omega, by omega⟩
    have hc : ∃ cc, cc < 0x110000 ∧ atI ("abcdefghijklmnopqrstuvwxyz" : Str).cps.toList ((r + m * (0 + (i : Int))) % 26) = some cc := by
      rw [hj]
      have hj2 : j < ("abcdefghijklmnopqrstuvwxyz" : Str).cps.toList.length := hj'
      refine ⟨_, ?_, atI_nat (List.getElem?_eq_getElem hj2)⟩
      have all : ∀ c ∈ ("abcdefghijklmnopqrstuvwxyz" : Str).cps.toList, c < 0x110000 := by decide
      exact all _ (List.getElem_mem hj2)
    obtain ⟨cc, hcc, hc⟩ := hc
    refine ⟨rfl, _, rfl, _, rfl, _, rfl, _, rfl, _, rfl, _, _, rfl, rfl, .inl ⟨by omega, by omega⟩, _, _, rfl, rfl, _, _, rfl, rfl, (by show (0 : Int) < 26; decide), _, _, cc, rfl, rfl, (by decide), hc, ?_⟩
    refine ⟨_, _, rfl, rfl, le_line (by show z2.length + 1 ≤ _; omega), _, rfl, _, _, rfl, rfl, le_line ?_, zs.map V.str, g7, snoc_le (by rw [List.length_map]; omega), ?_⟩
    · rw [str_len]
      show z2.length + 1 + z1.length ≤ _
      omega
    have ed : ∀ o, del D (del b (upd H8 D o)) = del D (del b H8) := fun o => by rw [del_upd_ne nb.symm, del_upd]
    refine ⟨by rw [ed]; exact s7, b7.put nb nsa, zs ++ [z2 ++ ⟨#[cc]⟩ ++ z1], by rw [upd_same, List.map_append]; rfl, by simp [hl], fun z hz => ?_⟩
    rcases List.mem_append.mp hz with hz | hz
    · exact hok z hz
    · rw [List.mem_singleton.mp hz]
      exact ok_app (ok_app o2 (ok_one hcc)) o1
  · rintro H7 ⟨s7, b7, zs, g7, hl, hok⟩
    exact q D H7 zs (s16.trans (s7.trans del_same)) b7 (by rw [del_ne nb.symm]; exact g7) hl hok
/-! ### _law_atom -/
def spAtom : Sp := fun vs H Q _ => ∃ (b sa l : Addr) (n : Nat) (zs : List Str), vs = [.ref b, .int n, .ref l] ∧ BagAt H b sa ∧ 1 ≤ n ∧ n ≤ 6 ∧ del b H l = some (.lst (zs.map V.str)) ∧ 0 < zs.length ∧ zs.length ≤ 100 ∧ (∀ z ∈ zs, PyData.strOk z = true) ∧ ∀ r H' e, Same (del b H) (del b H') → BagAt H' b sa → ExAt (del b H') e r → e.dep = 1 → Q r H'
theorem sc_atom : FnScope ["_law_bag_here", "_law_wide", "_law_names_here", "_law_way"] ["_law_bag_here", "_law_wide", "_law_names_here"] (C8.fnScope sAtom) := C8.fnScope_by (by decide +kernel)
theorem dp_strs {K : PySem.W.Frag} {H : Hp} : ∀ (zs : List Str), DpAll K H (zs.map V.str) (zs.map PyData.str)
  | [] => .nil
  | z :: zs => .cons (.str z) (dp_strs zs)
theorem depth_strs : ∀ zs : List Str, PyData.depthAll (zs.map PyData.str) ≤ 1
  | [] => by show (0 : Nat) ≤ 1; omega
  | z :: r => by
    rw [List.map_cons]
    have h := depth_strs r
    have e : (PyData.str z).depth ≤ 1 := by simp [PyData.depth]
    simp only [PyData.depthAll]
    omega
theorem shaped_strs (zs : List Str) (h : ∀ z ∈ zs, PyData.strOk z = true) : SeqAt.shaped (.list (zs.map PyData.str)) = true := by
  have h2 := depth_strs zs
  have e : PyData.canLayAll0 (zs.map PyData.str) = true := by rw [PyProof.Rows.canLayAll_strs']; exact List.all_eq_true.mpr h
  unfold SeqAt.shaped
  simp only [PyData.canLay0, e, PyData.depth, Bool.true_and]
  exact decide_eq_true (by omega)
theorem ok_atom (h : Has K mg "_law_atom" sAtom ["_law_bag_here", "_law_wide", "_law_names_here"]) (c : C8.Cal P w K mg base 1 "_law_pull" spPull []) (cO : C8.Cal P w K mg base 2 "_law_of" spOf []) (cM : C8.Cal P w K mg base 2 "_law_move" spMove []) : C8.Cal P w K mg base 3 "_law_atom" spAtom [] := by
  refine cal_of h sc_atom (fun vs H Q E z => ?_) (fun f cdv A outer s H vs Q E hr z => ?_)
  · obtain ⟨b, sa, l, n, zs, rfl, _⟩ := z; rfl
  obtain ⟨b, sa, l, n, zs, rfl, hb, n1, n6, hz, z0, z1, zo, q⟩ := z
  have nd := sc_atom.nd
  refine ⟨_, (pss_cons (ps_set (i := 3) nd rfl (.inl rfl) (C8.pe_c c hr (by decide) rfl (pa_cons (pv 0) (pa_cons pe_int pa_nil))))
    (pss_cons (ps_if (pt_cmpR op_eq (pv 3) pe_int (nomark _)) (pss_one (ps_ret (pe_tup (pa_cons pe_str pa_nil)))) pss_nil)
    (C8.pss_cut (ps_if (PW.pt (pw_and (pt_cmpR op_lt (pv 3) pe_int (nomark _)) (pw_and1 (pt_cmpR (op_neD hr.units) (pv 2) (pe_lst pa_nil) (nomark _))))) (pss_one (ps_ret (pe_tup (pa_cons pe_str (pa_cons (C8.pe_c cO hr (by decide) rfl (pa_cons (pv 0) (pa_cons (pv 2) pa_nil))) pa_nil))))) pss_nil)
    (pss_one (ps_ret (C8.pe_c cM hr (by decide) rfl (pa_cons (pv 0) (pa_cons (pv 1) pa_nil)))))))), ?_⟩
  refine ⟨_, rfl, b, sa, _, rfl, hb, by decide, by decide, fun r H1 r0 r1 s1 b1 => ?_⟩
  refine ⟨_, rfl, rfl, _, rfl, ite2 (fun _ => ?_) (fun _ => ?_)⟩
  · refine ⟨(by show 1 ≤ sizeLine; decide), fun t ht => ?_⟩
    obtain ⟨nb, _⟩ := b1.old ht
    refine q _ _ .ident (s1.trans (same_dels (same_new ht _))) (b1.mono (same_new ht _)) ⟨t, rfl, ?_⟩ rfl
    rw [del_ne nb.symm, upd_same]
  refine ⟨fun σ H' => Same (del b H1) (del b H') ∧ BagAt H' b sa ∧ ∃ x3, σ = [some (.ref b), some (.int n), some (.ref l), x3], ?_, ?_⟩
  · refine ⟨_, rfl, _, _, rfl, rfl, _, rfl, ite2 (fun _ => ?_) (fun _ => ⟨Same.refl _, b1, _, rfl⟩)⟩
    have hz1 := s1 _ _ hz
    refine ⟨_, rfl, (by show 0 ≤ sizeLine; decide), fun e he => ?_⟩
    have s2 := same_new he (.lst [])
    have g2 : upd H1 e (.lst []) e = some (.lst []) := upd_same
    have b2 := b1.mono s2
    generalize upd H1 e (.lst []) = H2 at s2 g2 b2
    have hz2 := same_dels s2 _ _ hz1
    refine ⟨.list (zs.map PyData.str), .list [], .lst (SqL.of (of_del hz2).1) (dp_strs zs), .lst (SqL.of g2) .nil, ?_, rfl, _, rfl, ?_⟩
    · exact shaped_strs zs zo
    have ne : PyData.eqv (.list (zs.map PyData.str)) (.list []) = false := by
      cases zs with
      | nil => cases z0
      | cons z r => simp [PyData.eqv, PyData.eqvAll]
    rw [ne]
    refine iteT ?_
    have nl : l ≠ b := (of_del hz2).2
    refine ⟨_, rfl, _, rfl, b, sa, l, _, rfl, b2, nl, (of_del hz2).1, by rw [List.length_map]; exact z0, by rw [List.length_map]; exact z1, fun i x H3 hx s3 b3 => ?_⟩
    obtain ⟨z, _, rfl⟩ := of_strs hx
    refine ⟨(by show 2 ≤ sizeLine; decide), fun t ht => ?_⟩
    obtain ⟨nb, _⟩ := b3.old ht
    refine q _ _ (.name z) (s1.trans ((same_dels s2).trans (s3.trans (same_dels (same_new ht _))))) (b3.mono (same_new ht _)) ⟨t, rfl, ?_⟩ rfl
    rw [del_ne nb.symm, upd_same]
  · rintro σ H2 ⟨s2, b2, x3, rfl⟩
    refine ⟨_, rfl, _, rfl, b, sa, n, rfl, b2, n1, n6, fun r H3 e s3 b3 he hd => q r H3 e (s1.trans (s2.trans s3)) b3 he hd⟩
/-! ### _law_tree -/
def spTree : Nat → Sp
  | 0 => fun _ _ _ _ => False
  | d + 1 => fun vs H Q _ => ∃ (b sa l : Addr) (n : Nat) (zs : List Str), vs = [.ref b, .int n, .ref l, .int (d : Nat)] ∧ BagAt H b sa ∧ 1 ≤ n ∧ n ≤ 6 ∧ del b H l = some (.lst (zs.map V.str)) ∧ 0 < zs.length ∧ zs.length ≤ 100 ∧ (∀ z ∈ zs, PyData.strOk z = true) ∧ ∀ r H' e, Same (del b H) (del b H') → BagAt H' b sa → ExAt (del b H') e r → e.dep ≤ d + 1 → Q r H'
theorem sc_tree : FnScope ["_law_bag_here", "_law_wide", "_law_names_here", "_law_deep", "_law_way", "_law_one"] ["_law_bag_here", "_law_wide", "_law_names_here", "_law_deep"] (C8.fnScope sTree) := C8.fnScope_by (by decide +kernel)
theorem tree_succ {d : Nat} (h : Has K mg "_law_tree" sTree ["_law_bag_here", "_law_wide", "_law_names_here", "_law_deep"]) (c : C8.Cal P w K mg base 1 "_law_pull" spPull []) (cA : C8.Cal P w K mg base 3 "_law_atom" spAtom []) (cT : C8.Cal P w K mg base (d + 3) "_law_tree" (spTree d) []) : C8.Cal P w K mg base (d + 3 + 1) "_law_tree" (spTree (d + 1)) [] := by
  refine cal_of h sc_tree (fun vs H Q E z => ?_) (fun f cdv A outer s H vs Q E hr z => ?_)
  · obtain ⟨b, sa, l, n, zs, rfl, _⟩ := z; rfl
  obtain ⟨b, sa, l, n, zs, rfl, hb, n1, n6, hz, z0, z1, zo, q⟩ := z
  have nd := sc_tree.nd
  refine ⟨_, (pss_cons (ps_set (i := 4) nd rfl (.inl rfl) (C8.pe_c c hr (by omega) rfl (pa_cons (pv 0) (pa_cons pe_int pa_nil))))
    (pss_cons (ps_if (PW.pt (pw_or (pt_cmpR op_eq (pv 3) pe_int (nomark _)) (pw_or1 (pt_cmpR op_lt (pv 4) pe_int (nomark _))))) (pss_one (ps_ret (C8.pe_c cA hr (by omega) rfl (pa_cons (pv 0) (pa_cons (pv 1) (pa_cons (pv 2) pa_nil)))))) pss_nil)
    (pss_cons (ps_if (pt_cmpR op_lt (pv 4) pe_int (nomark _)) (pss_cons (ps_set (i := 5) nd rfl (.inl rfl) (C8.pe_c cT hr (Nat.le_refl _) rfl (pa_cons (pv 0) (pa_cons (pv 1) (pa_cons (pv 2) (pa_cons (pe_op op_sub (pv 3) pe_int) pa_nil))))))
    (pss_one (ps_ret (pe_tup (pa_cons pe_str (pa_cons (pv 5) (pa_cons (C8.pe_c cT hr (Nat.le_refl _) rfl (pa_cons (pv 0) (pa_cons (pv 1) (pa_cons (pv 2) (pa_cons (pe_op op_sub (pv 3) pe_int) pa_nil))))) pa_nil))))))) pss_nil)
    (pss_cons (ps_if (pt_cmpR op_lt (pv 4) pe_int (nomark _)) (pss_cons (ps_set (i := 5) nd rfl (.inl rfl) (C8.pe_c cT hr (Nat.le_refl _) rfl (pa_cons (pv 0) (pa_cons (pv 1) (pa_cons (pv 2) (pa_cons (pe_op op_sub (pv 3) pe_int) pa_nil))))))
    (pss_one (ps_ret (pe_tup (pa_cons pe_str (pa_cons (pv 5) (pa_cons (C8.pe_c cT hr (Nat.le_refl _) rfl (pa_cons (pv 0) (pa_cons (pv 1) (pa_cons (pv 2) (pa_cons (pe_op op_sub (pv 3) pe_int) pa_nil))))) pa_nil))))))) pss_nil)
    (pss_one (ps_ret (pe_tup (pa_cons pe_str (pa_cons (C8.pe_c cT hr (Nat.le_refl _) rfl (pa_cons (pv 0) (pa_cons (pv 1) (pa_cons (pv 2) (pa_cons (pe_op op_sub (pv 3) pe_int) pa_nil))))) (pa_cons (pe_op op_sub (C8.pe_c c hr (by omega) rfl (pa_cons (pv 0) (pa_cons pe_int pa_nil))) pe_int) pa_nil)))))))))), ?_⟩
  refine ⟨_, rfl, b, sa, _, rfl, hb, by decide, by decide, fun r H1 r0 r1 s1 b1 => ?_⟩
  have fin : spAtom [.ref b, .int n, .ref l] H1 Q C8.E0 := ⟨b, sa, l, n, zs, rfl, b1, n1, n6, s1 _ _ hz, z0, z1, zo, fun r H' e s' b' he hd => q r H' e (s1.trans s') b' he (by omega)⟩
  refine ⟨_, rfl, rfl, _, rfl, ite2 (fun _ => ?_) (fun c0 => ?_)⟩
  · exact iteT ⟨_, rfl, _, rfl, _, rfl, fin⟩
  refine ⟨_, rfl, _, _, rfl, rfl, _, rfl, ite2 (fun _ => ?_) (fun _ => ?_)⟩
  · exact ⟨_, rfl, _, rfl, _, rfl, fin⟩
  cases d with
  | zero => exact absurd c0 (by decide)
  | succ d =>
    have e1 : ((d + 1 : Nat) : Int) - 1 = (d : Int) := by omega
    -- a tree below
    have sub : ∀ {H2 : Hp} {Q' : VK}, Same (del b H) (del b H2) → BagAt H2 b sa → (∀ r H' e, Same (del b H2) (del b H') → BagAt H' b sa → ExAt (del b H') e r → e.dep ≤ d + 1 → Q' r H') → spTree (d + 1) [.ref b, .int n, .ref l, .int (((d + 1 : Nat) : Int) - 1)] H2 Q' C8.E0 := fun {H2 Q'} s2 b2 q' => by
      rw [e1]
      exact ⟨b, sa, l, n, zs, rfl, b2, n1, n6, s2 _ _ hz, z0, z1, zo, q'⟩
    refine ⟨_, rfl, _, _, rfl, rfl, _, rfl, ite2 (fun _ => ?_) (fun _ => ?_)⟩
    · refine ⟨_, rfl, _, rfl, _, rfl, _, rfl, _, _, rfl, rfl, sub s1 b1 fun v1 H2 x1 s2 b2 h1 d1 => ?_⟩
      refine ⟨_, rfl, _, rfl, _, rfl, _, rfl, _, rfl, _, _, rfl, rfl, sub (s1.trans s2) b2 fun v2 H3 x2 s3 b3 h2 d2 => ?_⟩
      refine ⟨(by show 3 ≤ sizeLine; decide), fun t ht => ?_⟩
      obtain ⟨nb, _⟩ := b3.old ht
      have sT := same_dels (D := b) (same_new ht (.tup [.str "product", v1, v2]))
      refine q _ _ (.prod x1 x2) (s1.trans (s2.trans (s3.trans sT))) (b3.mono (same_new ht _)) ⟨t, v1, v2, rfl, ?_, h1.mono (s3.trans sT), h2.mono sT⟩ (by show max x1.dep x2.dep + 1 ≤ _; omega)
      rw [del_ne nb.symm, upd_same]
    refine ⟨_, rfl, _, _, rfl, rfl, _, rfl, ite2 (fun _ => ?_) (fun _ => ?_)⟩
    · refine ⟨_, rfl, _, rfl, _, rfl, _, rfl, _, _, rfl, rfl, sub s1 b1 fun v1 H2 x1 s2 b2 h1 d1 => ?_⟩
      refine ⟨_, rfl, _, rfl, _, rfl, _, rfl, _, rfl, _, _, rfl, rfl, sub (s1.trans s2) b2 fun v2 H3 x2 s3 b3 h2 d2 => ?_⟩
      refine ⟨(by show 3 ≤ sizeLine; decide), fun t ht => ?_⟩
      obtain ⟨nb, _⟩ := b3.old ht
      have sT := same_dels (D := b) (same_new ht (.tup [.str "conjugate", v1, v2]))
      refine q _ _ (.conj x1 x2) (s1.trans (s2.trans (s3.trans sT))) (b3.mono (same_new ht _)) ⟨t, v1, v2, rfl, ?_, h1.mono (s3.trans sT), h2.mono sT⟩ (by show max x1.dep x2.dep + 1 ≤ _; omega)
      rw [del_ne nb.symm, upd_same]
    refine ⟨_, rfl, _, rfl, _, rfl, _, rfl, _, _, rfl, rfl, sub s1 b1 fun v1 H2 x1 s2 b2 h1 d1 => ?_⟩
    refine ⟨_, rfl, b, sa, _, rfl, b2, by decide, by decide, fun k H3 k0 k1 s3 b3 => ?_⟩
    refine ⟨_, _, rfl, rfl, (by show 3 ≤ sizeLine; decide), fun t ht => ?_⟩
    obtain ⟨nb, _⟩ := b3.old ht
    have sT := same_dels (D := b) (same_new ht (.tup [.str "power", v1, .int (k - 3)]))
    refine q _ _ (.pow x1 (k - 3)) (s1.trans (s2.trans (s3.trans sT))) (b3.mono (same_new ht _)) ⟨t, v1, rfl, ?_, h1.mono (s3.trans sT)⟩ (by show x1.dep + 1 ≤ _; omega)
    rw [del_ne nb.symm, upd_same]
theorem ok_tree (h : Has K mg "_law_tree" sTree ["_law_bag_here", "_law_wide", "_law_names_here", "_law_deep"]) (c : C8.Cal P w K mg base 1 "_law_pull" spPull []) (cA : C8.Cal P w K mg base 3 "_law_atom" spAtom []) : ∀ d, C8.Cal P w K mg base (d + 3) "_law_tree" (spTree d) []
  | 0 => cal_no h fun _ _ _ _ z => z
  | d + 1 => tree_succ h c cA (ok_tree h c cA d)
end
end L2.FK
/-! The law. -/
namespace L2.FK
open PySem PySem.Spec PyProof.Rows L2.FL
theorem same_upd {H : Hp} {r : Addr} {o : HO} : Same (del r H) (upd H r o) := fun b u q => by
  obtain ⟨h, n⟩ := of_del q
  rw [upd_ne n]; exact h
section
variable {P : Program} {w : World} {K : PySem.W.Frag} {mg : Str → Option Value} {base : Heap}
abbrev nLaw : List Str := ["_law_script", "_law_bag_here", "_law_turn", "_law_tree_here", "_law_again", "_law_told"]
def spLaw (K : PySem.W.Frag) : Sp := fun vs H Q _ => ∃ (a : Addr) (ns : List Int), vs = [.ref a] ∧ SqL K H a (ns.map V.int) ∧ ∀ H', Q (.bl true) H'
theorem sc_law : FnScope nLaw ["_law_script"] (C8.fnScope sLaw) := C8.fnScope_by (by decide +kernel)
theorem ok_law {f : Addr} {fd : FuncData} (F : C8.Fun K "law" "law" sLaw f fd) (B : Bl mg) (cB : C8.Cal P w K mg base 1 "_law_bag" (spBag K) []) (cP : C8.Cal P w K mg base 1 "_law_pull" spPull []) (cN : C8.Cal P w K mg base 3 "_law_names" spNames []) (cT : C8.Cal P w K mg base 8 "_law_tree" (spTree 5) [])
    (cC : C8.Cal P w K mg base 5 "compiled" (spProg 5) []) (cG : C8.Cal P w K mg base 5 "_law_program" (spProg 5) []) (cL : C8.Cal P w K mg base 4 "_law_like" (spLike 4) []) : FnOk P w K mg base C8.CX0 9 f fd ["_law_script"] (spLaw K) := by
  refine C8.fn0 F sc_law (fun vs H Q E z => ?_) (fun cdv A outer s H vs Q E hr z => ?_)
  · obtain ⟨a, ns, rfl, _⟩ := z; rfl
  obtain ⟨a, ns, rfl, hs, q⟩ := z
  have nd := sc_law.nd
  refine ⟨_, (pss_cons (ps_set (i := 1) nd rfl (.inl rfl) (C8.pe_c cB hr (by decide) rfl (pa_cons (pv 0) pa_nil)))
    (pss_cons (ps_for PassesOwn.never rfl (pi_range1 rfl B.range (pa_cons pe_int pa_nil)) (pg_name (i := 2) nd rfl (.inl rfl))
    (pss_cons (ps_set (i := 3) nd rfl (.inl rfl) (C8.pe_c cT hr (by decide) rfl (pa_cons (pv 1) (pa_cons (pe_op op_add pe_int (C8.pe_c cP hr (by decide) rfl (pa_cons (pv 1) (pa_cons pe_int pa_nil)))) (pa_cons (C8.pe_c cN hr (by decide) rfl (pa_cons (pv 1) (pa_cons pe_int pa_nil))) (pa_cons pe_int pa_nil))))))
    (pss_one (ps_for PassesOwn.never rfl (pi_range1 rfl B.range (pa_cons pe_int pa_nil)) (pg_name (i := 4) nd rfl (.inl rfl))
    (pss_cons (ps_set (i := 5) nd rfl (.inl rfl) (C8.pe_c cC hr (by decide) rfl (pa_cons (pv 3) pa_nil)))
    (pss_cons (ps_if (pt_not (pt_val (C8.pe_c cL hr (by decide) rfl (pa_cons (pv 5) (pa_cons (C8.pe_c cG hr (by decide) rfl (pa_cons (pv 3) pa_nil)) pa_nil))))) (pss_one ps_never) pss_nil)
    (pss_cons (ps_expr (pe_bm0 PySem.F.plainAttrs_list PySem.F.slot_list_reverse PySem.F.type_list_reverse mt_reverse (pv 5)))
    (pss_one (ps_expr (pe_bm PySem.F.plainAttrs_list PySem.F.slot_list_append PySem.F.type_list_append mt_append (pv 5) (pa_cons (pe_tup pa_nil) pa_nil)))))))))))
    (pss_one (ps_ret (pe_cmpR (op_eqD hr.units) (C8.pe_c cC hr (by decide) rfl (pa_cons (pe_tup (pa_cons pe_str pa_nil)) pa_nil)) (pe_lst (pa_cons (pe_tup (pa_cons pe_str pa_nil)) pa_nil)) (nomark _)))))), ?_⟩
  refine ⟨_, rfl, a, ns, rfl, hs, fun b sa H1 hb s1 b1 => ?_⟩
  refine ⟨_, rfl, by decide, by decide, for_it (walk_range (lo := 0) (n := 3)) (fun i σ H' => BagAt H' b sa ∧ ∃ x2 x3 x4 x5, σ = [some (.ref a), some (.ref b), x2, x3, x4, x5]) ⟨b1, _, _, _, _, rfl⟩ ?_ ?_ ?_⟩
  · rintro i σ H' _ _; trivial
  · rintro i x σ H2 H3 hi ⟨b2, x2, x3, x4, x5, rfl⟩ ⟨rfl, rfl⟩
    refine ⟨_, rfl, _, rfl, b, sa, _, rfl, b2, by decide, by decide, fun r H4 r0 r1 s4 b4 => ⟨_, _, rfl, rfl, ?_⟩⟩
    obtain ⟨n, hn⟩ : ∃ n : Nat, (1 : Int) + r = n := ⟨(1 + r).toNat, by omega⟩
    refine ⟨_, rfl, b, sa, 3, rfl, b4, by decide, fun l H5 zs s5 b5 hl hlen hok => ?_⟩
    refine ⟨b, sa, l, n, zs, by show [V.ref b, V.int (1 + r), V.ref l, V.int 4] = _; rw [hn]; rfl, b5, by omega, by omega, hl, by omega, by omega, hok, fun v H6 e s6 b6 he hd => ?_⟩
    have hd : e.dep ≤ 5 := hd
    refine ⟨_, rfl, by decide, by decide, for_it (walk_range (lo := 0) (n := 2)) (fun i σ H' => (BagAt H' b sa ∧ ExAt (del b H') e v) ∧ ∃ x2 x4 x5, σ = [some (.ref a), some (.ref b), x2, some v, x4, x5]) ⟨⟨b6, he⟩, _, _, _, rfl⟩ ?_ ?_ ?_⟩
    · rintro i σ H' _ _; trivial
    · rintro j x σ H7 H8 hj ⟨⟨b7, h7⟩, x2, x4, x5, rfl⟩ ⟨rfl, rfl⟩
      refine ⟨_, rfl, v, e, rfl, h7.mono del_same, hd, by omega, fun r1 H9 n9 s9 p9 => ?_⟩
      obtain ⟨nb, nsa⟩ := b7.old n9
      refine ⟨_, rfl, _, rfl, v, e, rfl, (h7.mono del_same).mono s9, hd, by omega, fun r2 H10 n10 s10 p10 => ?_⟩
      obtain ⟨us, g9, h9⟩ := p9.mono s10
      obtain ⟨ws, g10, h10⟩ := p10
      have hl1 := paired_len h9
      have hl2 := prog_len e
      have hl3 : 2 ^ e.dep ≤ 2 ^ 5 := Nat.pow_le_pow_right (by decide) hd
      refine ⟨_, _, rfl, .inr (.inr (.inr (.inr ⟨r1, r2, us, ws, rfl, rfl, .inl ⟨g9, g10⟩, paired_two h9 h10 fun _ _ _ => alk_ins, by omega⟩))), fun H11 s11 => ⟨_, rfl, iteF ?_⟩⟩
      have s7 := s9.trans (s10.trans s11)
      have g11 := s11 _ _ g9
      have b11 := b7.mono s7
      have h11 := h7.mono (same_dels s7)
      refine ⟨_, rfl, .inl ⟨rfl, _, SqL.of g11⟩, r1, us, rfl, rfl, g11, ?_⟩
      have e11 : ∀ o, del b (upd H11 r1 o) = upd (del b H11) r1 o := fun o => del_upd_ne nb.symm
      have k11 : ∀ o, ExAt (del b (upd H11 r1 o)) e v := fun o => by
        rw [e11]
        exact (h11.del (D := r1) (o := .lst us) (by rw [del_ne nb.symm]; exact g11) (fun _ z => nomatch z)).mono same_upd
      refine ⟨_, rfl, .inl ⟨rfl, _, SqL.of upd_same⟩, (by show 0 ≤ sizeLine; decide), fun t ht => ?_⟩
      have nt : r1 ≠ t := ne_of_none (upd_same (H := H11) (a := r1)) ht
      refine ⟨r1, us.reverse, _, rfl, rfl, by rw [upd_ne nt]; exact upd_same, snoc_le (by rw [List.length_reverse]; omega), ?_⟩
      have b12 := (b11.put (a := r1) (o := .lst us.reverse) nb nsa).mono (same_new ht (.tup []))
      have k12 := (k11 (.lst us.reverse)).mono (same_dels (same_new ht (.tup [])))
      have g12 : upd (upd H11 r1 (.lst us.reverse)) t (.tup []) r1 = some (.lst us.reverse) := by rw [upd_ne nt]; exact upd_same
      generalize upd (upd H11 r1 (.lst us.reverse)) t (.tup []) = H12 at b12 k12 g12
      refine ⟨⟨b12.put nb nsa, ?_⟩, _, _, _, rfl⟩
      rw [del_upd_ne nb.symm]
      exact (k12.del (D := r1) (o := .lst us.reverse) (by rw [del_ne nb.symm]; exact g12) (fun _ z => nomatch z)).mono same_upd
    · rintro σ H7 ⟨⟨b7, _⟩, x2, x4, x5, rfl⟩
      exact ⟨b7, _, _, _, _, rfl⟩
  · rintro σ H2 ⟨b2, x2, x3, x4, x5, rfl⟩
    refine ⟨(by show 1 ≤ sizeLine; decide), fun t ht => ?_⟩
    refine ⟨.ref t, .ident, rfl, ⟨t, rfl, upd_same⟩, by decide, by decide, fun r1 H3 n3 s3 p3 => ?_⟩
    obtain ⟨us, g3, h3⟩ := p3
    refine ⟨(by show 1 ≤ sizeLine; decide), fun t2 ht2 => ⟨(by show 1 ≤ sizeLine; decide), fun l hl => ?_⟩⟩
    have s4 := same_new ht2 (.tup [.str "identity"])
    have g4 : upd H3 t2 (.tup [.str "identity"]) t2 = some (.tup [.str "identity"]) := upd_same
    generalize upd H3 t2 (.tup [.str "identity"]) = H4 at s4 g4 hl
    have s5 := same_new hl (.lst [.ref t2])
    have g5 : upd H4 l (.lst [.ref t2]) l = some (.lst [.ref t2]) := upd_same
    generalize upd H4 l (.lst [.ref t2]) = H5 at s5 g5
    match us, h3, g3 with
    | [_], .cons ⟨t3, rfl, g6⟩ .nil, g3 =>
      have s35 := s4.trans s5
      refine ⟨.list [.tuple [.str "identity"]], .list [.tuple [.str "identity"]], .lst (SqL.of (s35 _ _ g3)) (.cons (.tup (.inl (.inl (s35 _ _ g6))) (.cons (.str _) .nil)) .nil), .lst (SqL.of g5) (.cons (.tup (.inl (.inl (s5 _ _ g4))) (.cons (.str _) .nil)) .nil), by decide +kernel, by decide +kernel, ?_⟩
      rw [show PyData.eqv (.list [.tuple [.str "identity"]]) (.list [.tuple [.str "identity"]]) = true by decide +kernel]
      exact q _
end
end L2.FK
namespace L2.FK
open PySem PySem.Spec PyProof.Rows L2.FL
section
variable {K : PySem.W.Frag} {mg : Str → Option Value} {h : Heap}
theorem has_mk {x : Str} {st : Stmt} {ps : List Str} {f : Addr} {oc : Value} {od an : Option Addr} {osl : Array (Option Value)} {kV doc pm cdv ct : Value} (X : K.In h) (G : h.Ns mainGlobals mg) (a : PySem.W.nsIn K mainGlobals x = some (some (.ref f)))
    (l : K.lookup f = some ⟨oc, od, .func (PySem.W.fnOf x x (C8.fnArgs st) (C8.fnBody st) (C8.fnScope st) .none kV doc pm an cdv ct), osl⟩) (c : PySem.W.codeIn K cdv x = true) (k : PySem.W.keepIn K (.ref f) = true)
    (hb : ∀ (kV doc pm : Value) (an : Option Addr) (cdv ct : Value) (us : List Value), us.length = ps.length → bindArgs (PySem.W.fnOf x x (C8.fnArgs st) (C8.fnBody st) (C8.fnScope st) .none kV doc pm an cdv ct) ⟨us, []⟩ = pure (ps.zip us)) : Has K mg x st ps := by
  have F : C8.Fun K x x st f _ := ⟨oc, od, .none, kV, doc, pm, an, cdv, ct, osl, rfl, l, c⟩
  exact ⟨f, _, ⟨F, PySem.W.mg_of X G a, k⟩, F.binds rfl hb⟩
theorem bl_mk (X : K.In h) (G : h.Ns mainGlobals mg) (z0 : PySem.W.nsIn K mainGlobals "len" = some none) (z1 : PySem.W.nsIn K mainGlobals "range" = some none) (z2 : PySem.W.nsIn K mainGlobals "list" = some none) (z3 : PySem.W.nsIn K mainGlobals "tuple" = some none) (z4 : PySem.W.nsIn K mainGlobals "isinstance" = some none) (z5 : PySem.W.nsIn K mainGlobals "all" = some none) (z6 : PySem.W.nsIn K mainGlobals "int" = some none) (z7 : PySem.W.nsIn K mainGlobals "bool" = some none) (z8 : PySem.W.nsIn K mainGlobals "str" = some none) : Bl mg :=
  ⟨PySem.W.mg_none_of X G z0, PySem.W.mg_none_of X G z1, PySem.W.mg_none_of X G z2, PySem.W.mg_none_of X G z3, PySem.W.mg_none_of X G z4, PySem.W.mg_none_of X G z5, PySem.W.mg_none_of X G z6, PySem.W.mg_none_of X G z7, PySem.W.mg_none_of X G z8⟩
end
/-- all that the law needs of the top -/
structure All (K : PySem.W.Frag) (mg : Str → Option Value) : Prop where
  bl : Bl mg
  d0 : Has K mg "compiled" sCompiled ["tree"]
  d1 : Has K mg "_law_bag" sBag ["_law_script"]
  d2 : Has K mg "_law_pull" sPull ["_law_bag_here", "_law_size"]
  d3 : Has K mg "_law_of" sOf ["_law_bag_here", "_law_some"]
  d4 : Has K mg "_law_like" sLike ["_law_found", "_law_due"]
  d5 : Has K mg "_law_move" sMove ["_law_bag_here", "_law_wide"]
  d6 : Has K mg "_law_names" sNames ["_law_bag_here", "_law_many"]
  d7 : Has K mg "_law_tree" sTree ["_law_bag_here", "_law_wide", "_law_names_here", "_law_deep"]
  d8 : Has K mg "_law_atom" sAtom ["_law_bag_here", "_law_wide", "_law_names_here"]
  d9 : Has K mg "_law_program" sProgram ["_law_tree_here"]
theorem law_of {P : Program} {w : World} {K : PySem.W.Frag} {mg : Str → Option Value} {base : Heap} {f : Addr} {fd : FuncData} (A : All K mg) (F : C8.Fun K "law" "law" sLaw f fd) : FnOk P w K mg base C8.CX0 9 f fd ["_law_script"] (spLaw K) := by
  have B := A.bl
  have cC := ok_compiled (P := P) (w := w) (base := base) A.d0 5
  have cB := ok_bag (P := P) (w := w) (base := base) A.d1 B
  have cP := ok_pull (P := P) (w := w) (base := base) A.d2 B
  have cO := ok_of A.d3 B cP
  have cL := ok_like (P := P) (w := w) (base := base) A.d4 B 4
  have cM := ok_move A.d5 B cP
  have cN := ok_names A.d6 B cP cO
  have cA := ok_atom A.d8 cP cO cM
  have cT := ok_tree A.d7 cP cA 5
  have cG := ok_lprog (P := P) (w := w) (base := base) A.d9 5
  exact ok_law F B cB cP cN cT cC cG cL
theorem all_mk {l : PySem.W.OpenLaw} {w : World} {K : PySem.W.Frag} {h : Heap} {mg : Str → Option Value} {fa f4 : Addr} (X : K.In h) (G : h.Ns mainGlobals mg) (hfa : mg "law" = some (.ref fa)) (A : All K mg)
    {od4 an4 : Option Addr} {sl4 : Array (Option Value)} {oc4 kV4 dc4 pm4 cd4 ct4 : Value}
    (a4 : PySem.W.nsIn K mainGlobals "law" = some (some (.ref f4))) (l4 : K.lookup f4 = some ⟨oc4, od4, .func (PySem.W.fnOf "law" "law" (C8.fnArgs sLaw) (C8.fnBody sLaw) (C8.fnScope sLaw) .none kV4 dc4 pm4 an4 cd4 ct4), sl4⟩) (c4 : PySem.W.codeIn K cd4 "law" = true) :
    ∃ fd : FuncData, (∀ (s : Shared) (v : Value), BindsTo s fd ⟨[v], []⟩ [("_law_script", v)]) ∧ ∀ base : Heap, K.In base → base.Ns mainGlobals mg → FnOk l.prog w K mg base C8.CX0 9 fa fd ["_law_script"] (spLaw K) := by
  have e := hfa.symm.trans (PySem.W.mg_of X G a4)
  cases e
  exact ⟨PySem.W.fnOf "law" "law" (C8.fnArgs sLaw) (C8.fnBody sLaw) (C8.fnScope sLaw) .none kV4 dc4 pm4 an4 cd4 ct4, fun s v => .of_eq rfl, fun base _ _ => law_of A ⟨oc4, od4, .none, kV4, dc4, pm4, an4, cd4, ct4, sl4, rfl, l4, c4⟩⟩
theorem walk {l : PySem.W.OpenLaw} {q : Program} {loose : List Str} {XP : (Str → Option Value) → Heap → Prop} {YP : World → Heap → Prop} {d : DefRec} {K : Params → PySem.W.Frag} (hn : l.most = some 63) (hdf : d.params.defaults = [])
    (hY : ∀ (w : World) (h : Heap), YP w h → (K w.params).In h)
    (F : ∀ (w : World) (mg : Str → Option Value) (fa : Addr) (h : Heap), (K w.params).In h → h.Ns mainGlobals mg → mg d.name = some (.ref fa) →
      ∃ fd : FuncData, (∀ (s : Shared) (u : Value), BindsTo s fd ⟨[u], []⟩ [("_law_script", u)]) ∧ ∀ base : Heap, (K w.params).In base → base.Ns mainGlobals mg → FnOk l.prog w (K w.params) mg base C8.CX0 9 fa fd ["_law_script"] (spLaw (K w.params))) :
    PySem.W.WalkO q loose XP YP l.row.toRowW d [] (fun f vs => PySem.call f vs) :=
  L2.walk_of (n := 63) (k := 9) (x := "_law_script") (CX := fun _ => C8.CX0) (sp := fun w => spLaw (K w.params)) hn (by decide) hdf ⟨rfl, by decide, by decide⟩ hY F (fun _ _ a ns hl _ hS => ⟨a, ns, rfl, hS, fun _ => rfl⟩) fun _ _ _ _ _ z => z
end L2.FK
open PySem PySem.W PyProof.Rows
set_option maxRecDepth 100000 in
set_option maxHeartbeats 0 in
theorem PySem.Challenge.cw_farlanes_k48_programs_of_expressions_holds : PySem.Challenge.rw_farlanes_k48_programs_of_expressions.Holds := by
  w_on; o_law; k_head; (case hw => w_witness2)
  k_fill
  refine L2.FK.walk (l := PySem.Challenge.rw_farlanes_k48_programs_of_expressions) rfl rfl (fun w h Y => PySem.W.kIn_of Y) ?F
  case F =>
    intro w mg fa h KX G hmg
    refine' L2.FK.all_mk KX G hmg ?A ?a4 ?l4 ?c4
    (case a4 => k_is); (case l4 => k_is); (case c4 => k_is)
    case A =>
      refine' ⟨?bl, ?d0, ?d1, ?d2, ?d3, ?d4, ?d5, ?d6, ?d7, ?d8, ?d9⟩
      case bl =>
        refine' L2.FK.bl_mk KX G ?z0 ?z1 ?z2 ?z3 ?z4 ?z5 ?z6 ?z7 ?z8
        (case z0 => k_is); (case z1 => k_is); (case z2 => k_is); (case z3 => k_is); (case z4 => k_is); (case z5 => k_is); (case z6 => k_is); (case z7 => k_is); (case z8 => k_is)
      case d0 =>
        refine' L2.FK.has_mk KX G ?a ?l ?c ?k (fun _ _ _ _ _ _ us hl => match us, hl with | [_], _ => rfl)
        (case a => k_is); (case l => k_is); (case c => k_is); (case k => k_is)
      case d1 =>
        refine' L2.FK.has_mk KX G ?a ?l ?c ?k (fun _ _ _ _ _ _ us hl => match us, hl with | [_], _ => rfl)
        (case a => k_is); (case l => k_is); (case c => k_is); (case k => k_is)
      case d2 =>
        refine' L2.FK.has_mk KX G ?a ?l ?c ?k (fun _ _ _ _ _ _ us hl => match us, hl with | [_, _], _ => rfl)
        (case a => k_is); (case l => k_is); (case c => k_is); (case k => k_is)
      case d3 =>
        refine' L2.FK.has_mk KX G ?a ?l ?c ?k (fun _ _ _ _ _ _ us hl => match us, hl with | [_, _], _ => rfl)
        (case a => k_is); (case l => k_is); (case c => k_is); (case k => k_is)
      case d4 =>
        refine' L2.FK.has_mk KX G ?a ?l ?c ?k (fun _ _ _ _ _ _ us hl => match us, hl with | [_, _], _ => rfl)
        (case a => k_is); (case l => k_is); (case c => k_is); (case k => k_is)
      case d5 =>
        refine' L2.FK.has_mk KX G ?a ?l ?c ?k (fun _ _ _ _ _ _ us hl => match us, hl with | [_, _], _ => rfl)
        (case a => k_is); (case l => k_is); (case c => k_is); (case k => k_is)
      case d6 =>
        refine' L2.FK.has_mk KX G ?a ?l ?c ?k (fun _ _ _ _ _ _ us hl => match us, hl with | [_, _], _ => rfl)
        (case a => k_is); (case l => k_is); (case c => k_is); (case k => k_is)
      case d7 =>
        refine' L2.FK.has_mk KX G ?a ?l ?c ?k (fun _ _ _ _ _ _ us hl => match us, hl with | [_, _, _, _], _ => rfl)
        (case a => k_is); (case l => k_is); (case c => k_is); (case k => k_is)
      case d8 =>
        refine' L2.FK.has_mk KX G ?a ?l ?c ?k (fun _ _ _ _ _ _ us hl => match us, hl with | [_, _, _], _ => rfl)
        (case a => k_is); (case l => k_is); (case c => k_is); (case k => k_is)
      case d9 =>
        refine' L2.FK.has_mk KX G ?a ?l ?c ?k (fun _ _ _ _ _ _ us hl => match us, hl with | [_], _ => rfl)
        (case a => k_is); (case l => k_is); (case c => k_is); (case k => k_is)
