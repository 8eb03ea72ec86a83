import PyProof.Rows.All
import Wide.All
import OpenK.AllK
import Wide.FinOn
import HandS.ForMost
import HandS.Rev
import PyProof.JoinWalk
import HandS.Gcd
import HandS.Wide
import HandS.IsInst
import HandS.FStr
import HandS.StrMore
import HandS.Style
import HandS.NoneIn
import HandS.Defaults
import PySem.Challenge.RW_casknotes_k06_below_nought_whole_up_tota
set_option Elab.async false
set_option linter.all false
set_option maxRecDepth 100000
set_option maxHeartbeats 4000000
/-! repr of things, by the abstract heap: what is told of a value, beneath a running body whose guards are known -/
namespace Rp
open PySem PySem.Spec PyProof.Rows L2

/-- beneath X: room for n calls, X's frames, the guards that run -/
structure Low (X : Cx) (n : Nat) (g : List Code) (A : Around) : Prop where
  rm : Room n A
  fr : A.frames = X.A.frames
  gd : A.guards = some g
section
variable {X : Cx} {n m : Nat} {g : List Code} {A : Around} {a : Addr}
theorem Low.in1 (s : Low X (n + 1) g A) : Low X n g A.in1 := ⟨s.rm.in1, s.fr, s.gd⟩
theorem Low.mono (s : Low X n g A) (h : m ≤ n) : Low X m g A := ⟨s.rm.mono h, s.fr, s.gd⟩
theorem Low.guard {id : String} {v : Value} {us : List Value} (s : Low X (n + 1) g A)
    (hg : (Code.builtin id ⟨v :: us, []⟩).guards = [Code.builtin id ⟨v :: us, []⟩]) (hw : (Code.builtin id ⟨v :: us, []⟩).weight = 1) (hu : (Code.builtin id ⟨v :: us, []⟩).cUnits = 1)
    (he : (Code.builtin id ⟨v :: us, []⟩).envs = []) :
    Low X n (Code.builtin id ⟨v :: us, []⟩ :: g) (A.under (Code.builtin id ⟨v :: us, []⟩)) := by
  obtain ⟨⟨r1, r2, r3⟩, f, gd⟩ := s
  refine ⟨⟨r1, ?_, ?_⟩, ?_, ?_⟩
  · show A.depth + (Code.builtin id ⟨v :: us, []⟩).weight + 3 * n + 5 < _
    rw [hw]; omega
  · show A.units + (Code.builtin id ⟨v :: us, []⟩).cUnits + 16 * n + 200 < _
    rw [hu]; omega
  · show pushEnvs (Code.builtin id ⟨v :: us, []⟩).envs A.frames = _
    rw [he]; exact f
  · show pushGuards (Code.builtin id ⟨v :: us, []⟩).guards A.guards = _
    rw [hg, gd]; rfl
end

/-- what repr tells of v, at any heap grown from H -/
structure Says (X : Cx) (n : Nat) (as : List Addr) (H : Hp) (v : V) (t : Str) : Prop where
  und : ∀ (A : Around) (g : List Code) (base : Nat) (pins : List (Addr × Obj)) (s : Shared) (σ : L2.St) (H1 : Hp) (u : Value), Low X n g A → (∀ b ∈ as, Clear g b) → Inv X pins σ H1 s → Same H H1 → RelV v u → base + t.length ≤ sizeLine →
    wpAny (model X.prog X.w) A (pyReprUnder base u) (fun r s' => r = t ∧ ∃ H2, Inv X pins σ H2 s' ∧ Same H1 H2) X.xe s
  top : ∀ (A : Around) (g : List Code) (pins : List (Addr × Obj)) (s : Shared) (σ : L2.St) (H1 : Hp) (u : Value), Low X n g A → (∀ b ∈ as, Clear g b) → Inv X pins σ H1 s → Same H H1 → RelV v u → t.length ≤ sizeLine →
    wpAny (model X.prog X.w) A (call (.builtin "repr") [u]) (fun r s' => (∃ tk, r = .str t tk) ∧ ∃ H2, Inv X pins σ H2 s' ∧ Same H1 H2) X.xe s

section
variable {X : Cx} {n m : Nat} {as as' : List Addr} {H H' : Hp} {v : V} {t : Str} {a : Addr}
theorem Says.grow (h : Says X n as H v t) (e : Same H H') : Says X n as H' v t :=
  ⟨fun A g base pins s σ H1 u lo cl I x => h.und A g base pins s σ H1 u lo cl I (e.trans x), fun A g pins s σ H1 u lo cl I x => h.top A g pins s σ H1 u lo cl I (e.trans x)⟩
theorem Says.mono (h : Says X n as H v t) (hn : n ≤ m) (hs : ∀ b ∈ as, b ∈ as') : Says X m as' H v t :=
  ⟨fun A g base pins s σ H1 u lo cl => h.und A g base pins s σ H1 u (lo.mono hn) fun b hb => cl b (hs b hb), fun A g pins s σ H1 u lo cl => h.top A g pins s σ H1 u (lo.mono hn) fun b hb => cl b (hs b hb)⟩
theorem says_leaf (hi : ∀ u, RelV v u → ReprIs X.prog X.w u t) (ht : ∀ (A : Around) (E : Value → Shared → Prop) (s : Shared) (u : Value) (Q : Value → Shared → Prop), RelV v u → t.length ≤ sizeLine → Q (.str t s.toks) { s with toks := s.toks + 1 } → wpAny (model X.prog X.w) A (call (.builtin "repr") [u]) Q E s) :
    Says X 0 [] H v t :=
  ⟨fun A g base pins s σ H1 u _ _ I _ r hz => hi u r base hz A X.xe s _ fun tk => ⟨rfl, H1, I.tok tk, Same.refl H1⟩,
   fun A g pins s σ H1 u _ _ I _ r hz => ht A X.xe s u _ r hz ⟨⟨_, rfl⟩, H1, I.tok _, Same.refl H1⟩⟩
theorem says_bl (b : Bool) : Says X 0 [] H (.bl b) (if b then "True" else "False" : String) := by
  refine says_leaf (fun u r => ?_) fun A E s u Q r _ q => ?_
  · cases r
    have h := ReprIs.bool (prog := X.prog) (w := X.w) b
    cases b <;> exact h
  · cases r
    refine PySem.P.repr_of_bool ?_
    cases b <;> exact q
theorem says_non : Says X 0 [] H .non ("None" : String) := by
  refine says_leaf (fun u r => ?_) fun A E s u Q r _ q => ?_
  · cases r; exact ReprIs.none
  · cases r; exact PySem.P.repr_of_none q
theorem says_int {i : Int} (hi : i.natAbs.log2 < 1920) : Says X 0 [] H (.int i) (toString i) := by
  refine says_leaf (fun u r => ?_) fun A E s u Q r _ q => ?_
  · obtain ⟨tk, rfl⟩ := r; exact ReprIs.int tk hi
  · obtain ⟨tk, rfl⟩ := r; exact PySem.P.repr_of_int hi q
theorem says_str {x : Str} (hx : (reprText x).length ≤ sizeLine) : Says X 0 [] H (.str x) (reprText x) := by
  refine says_leaf (fun u r => ?_) fun A E s u Q r hz q => ?_
  · obtain ⟨tk, rfl⟩ := r; exact ReprIs.str x tk hx
  · obtain ⟨tk, rfl⟩ := r; exact PySem.P.repr_of_str q hz
end

/-! ### lists -/
section
variable {X : Cx} {n : Nat} {as : List Addr} {H : Hp} {a P : Addr} {xs : List V} {ts : List Str} {base : Nat} {g : List Code} {A : Around} {pins : List (Addr × Obj)} {σ : L2.St}
abbrev loopC (a P : Addr) (i k : Nat) : Code := .builtin "list.__repr__.loop" ⟨[.ref a, rawInt i, .ref P, rawInt (k : Int)], []⟩
theorem low_loop (lo : Low X (n + 1) g A) (i k : Nat) : Low X n (loopC a P i k :: g) (A.under (loopC a P i k)) :=
  lo.guard (by show (if Code.isGuard _ then _ else _) = _; rw [isGuard_list_loop]; rfl)
    (by simp only [Code.weight, isGuard_list_loop]; rfl)
    (by rfl) (by first | rfl | simp [Code.envs, Code.isFrame])
theorem lst_turns (lo : Low X (n + 1) g A) (hcl : ∀ b ∈ as, Clear g b) (hna : a ∉ as) (hit : ∀ (i : Nat) (x : V), xs[i]? = some x → ∃ t, ts[i]? = some t ∧ Says X n as H x t) (hl : ts.length = xs.length)
    (hsz : base + (listText ts).length ≤ sizeLine) (hq : SqL X.K H a xs) (haP : a ≠ P) {R : Result → Shared → Prop}
    (fin : ∀ s H2 u, Inv X pins σ H2 s → Same H H2 → R (.ok (.ret (.str (listText ts) u))) s) (bad : ∀ e s, X.xe e s → R (.error e) s) :
    ∀ (k i : Nat) (s : Shared) (H1 : Hp) (acc : Array Value) (c : Nat) (done : List (Str × Tok)), xs.length - i = k → i ≤ xs.length → Inv X pins σ H1 s → Same H H1 → FpOk X pins H1 P →
      s.heap.get? P = some { cls := .type "list", dict := none, data := .seq acc c, slots := #[] } → acc.toList = strValues done → done.map (·.1) = ts.take i →
      codeAny (model X.prog X.w) A (loopC a P i (base + piled (ts.take i))) R s := by
  have hL := textFrom_len ts 0 "["
  have hX : (listText ts).length = (textFrom 0 "[" ts).length + 1 := by
    unfold listText
    rw [strLen_append]; rfl
  have hsz0 : (listText ts).length ≤ sizeLine := by omega
  have small : ∀ t ∈ ts, t.length ≤ sizeLine := fun t ht => by
    have h2 := hL.2.1 t ht
    omega
  have hp3 := piled_le_listText ts
  have hn1 : xs.length ≤ sizeLine := by
    have h1 := hL.1
    rw [if_neg (Nat.lt_irrefl 0)] at h1
    omega
  intro k
  induction k with
  | zero =>
    intro i s H1 acc c done hk hi I hs fp hP hacc hdone
    have hin : i = xs.length := by omega
    obtain ⟨its, rv, pl, _⟩ := I.list (hs.seq hq)
    obtain ⟨oa, na, ho, _, _, hd⟩ := pl
    refine codeAny_builtin PySem.F.entry_list_repr_loop ?_
    show wpAny _ _ (Builtin.«list.__repr__.loop» ⟨[.ref a, .int i 0, .ref P, .int ((base + piled (ts.take i) : Nat) : Int) 0], []⟩) _ _ s
    rw [repr_loop_tree]
    refine wpAny_bind (wpAny_listItems ho hd ?_)
    have none_ : its.toArray[((i : Int)).toNat]? = none := by
      have := rv.length
      simp; omega
    simp only [none_]
    unfold reprEnd
    refine wpAny_bind (wpAny_listItems hP rfl ?_)
    rw [hacc, repr_fold]
    have hall : done.map (·.1) = ts := by rw [hdone, hin, ← hl, List.take_length]
    refine wpAny_bind (wpAny_pure ?_)
    rw [hall]
    exact wpAny_bind (wpAny_mkStr (wpAny_pure (fin _ H1 _ (I.tok _) hs)) hsz0)
  | succ k ih =>
    intro i s H1 acc c done hk hi I hs fp hP hacc hdone
    have hlt : i < xs.length := by omega
    obtain ⟨its, rv, pl, _⟩ := I.list (hs.seq hq)
    obtain ⟨oa, na, ho, _, _, hd⟩ := pl
    have hlt2 : i < its.length := by rw [← rv.length]; exact hlt
    obtain ⟨t, ht, hsay⟩ := hit i xs[i] (List.getElem?_eq_getElem hlt)
    obtain ⟨u, hu, ru⟩ := rv.get (List.getElem?_eq_getElem hlt)
    have hp1 := piled_take_succ ht
    have hp2 := piled_take_le ts (i + 1)
    refine codeAny_builtin PySem.F.entry_list_repr_loop ?_
    show wpAny _ _ (Builtin.«list.__repr__.loop» ⟨[.ref a, .int i 0, .ref P, .int ((base + piled (ts.take i) : Nat) : Int) 0], []⟩) _ _ s
    rw [repr_loop_tree]
    refine wpAny_bind (wpAny_listItems ho hd ?_)
    have some_ : its.toArray[i]? = some u := by simpa using hu
    simp only [Int.toNat_natCast, some_]
    obtain ⟨f0, f1, f2, f3, f4, f5⟩ := id fp
    have Ip : Inv X ((P, { cls := .type "list", dict := none, data := .seq acc c, slots := #[] }) :: pins) σ H1 s := I.pins_of fun p hp => by
      rcases List.mem_cons.mp hp with e | hp
      · rw [e]
        exact ⟨hP, f0, f1, f2, fun v z => by cases z⟩
      · exact I.pin p (List.mem_append_right _ hp)
    refine wpAny_bind (wpAny_holding (wpAny_mono (hsay.und (A.under (loopC a P i (base + piled (ts.take i)))) (loopC a P i (base + piled (ts.take i)) :: g) (base + piled (ts.take i) + 1) _ s σ H1 u (low_loop lo i _)
      (fun b hb => (hcl b hb).cons (a := a) fun e => hna (e ▸ hb)) Ip hs ru (by omega)) (fun r s2 hr => ?_) fun e s2 he => bad e s2 he))
    obtain ⟨er, H2, I2, e2⟩ := hr
    subst er
    obtain ⟨hP2, n2, _⟩ := I2.pin _ (List.mem_append_right _ List.mem_cons_self)
    have I3 : Inv X pins σ H2 s2 := I2.pins_of fun p hp => I2.pin p (List.mem_append_right _ (List.mem_cons_of_mem _ hp))
    refine wpAny_bind (wpAny_mkStr ?_ (small r (List.mem_of_getElem? ht)))
    refine wpAny_bind ?_
    show wpAny _ _ (updateSeq P _) _ _ _
    have hasz : acc.size ≤ sizeLine := by
      have e1 : acc.toList.length = acc.size := by simp
      have e3 : done.length = (ts.take i).length := by rw [← hdone, List.length_map]
      have e4 : (ts.take i).length ≤ i := by rw [List.length_take]; omega
      have e5 : (strValues done).length = done.length := by simp [strValues]
      rw [hacc] at e1; omega
    refine wpAny_updateSeq hP2 rfl (wpAny_pure ⟨PySem.F.quiet_list_repr_loop _, ?_⟩) hasz
    have e1 : ((i : Int) + 1) = ((i + 1 : Nat) : Int) := by omega
    have e3 : base + piled (ts.take i) + (r.length + 2) = base + piled (ts.take (i + 1)) := by omega
    rw [e1, e3]
    have fp2 : FpOk X pins H2 P := ⟨n2, f1, f2, f3, f4, f5⟩
    refine ih (i + 1) _ H2 (acc.push (.str r s2.toks)) _ (done ++ [(r, s2.toks)]) (by omega) hlt ((I3.tok (s2.toks + 1)).turned (t' := s2.toks + 1) (it := P) (fun b o hb e => ?_) n2 f1 f3 f4 f5) (hs.trans e2) fp2 (Heap.get?_update_self _ hP2 rfl) ?_ ?_
    · exact (Heap.get?_update_other _ _ (fun z : P = b => hb z.symm)).trans e
    · simp [hacc, strValues]
    · rw [List.map_append, hdone, List.take_add_one, ht]
      rfl

/-- the body of list.__repr__, of any base -/
theorem lst_body (lo : Low X (n + 1) g A) (hcl : ∀ b ∈ a :: as, Clear g b) (hna : a ∉ as) (hit : ∀ (i : Nat) (x : V), xs[i]? = some x → ∃ t, ts[i]? = some t ∧ Says X n as H x t) (hl : ts.length = xs.length)
    (hsz : base + (listText ts).length ≤ sizeLine) (hq : SqL X.K H a xs) {s : Shared} {H1 : Hp} (I : Inv X pins σ H1 s) (hs : Same H H1) {R : Result → Shared → Prop}
    (fin : ∀ s H2 u, Inv X pins σ H2 s → Same H1 H2 → R (.ok (.ret (.str (listText ts) u))) s) (bad : ∀ e s, X.xe e s → R (.error e) s) :
    wpAny (model X.prog X.w) A.in1 (Builtin.listReprAt base ⟨[.ref a], []⟩) (fun fin s' => match fin with | .done f => R (.ok f) s' | .again c' => c'.quiet = true ∧ codeAny (model X.prog X.w) A c' R s') (fun e s' => R (.error e) s') s := by
  obtain ⟨its, rv, pl, _⟩ := I.list (hs.seq hq)
  obtain ⟨oa, na, ho, hc, _, hd⟩ := id pl
  have hca : Clear g a := hcl a List.mem_cons_self
  cases its with
  | nil =>
    cases rv
    have e : ts = [] := List.length_eq_zero_iff.mp hl
    subst e
    refine wpAny_list_repr_empty ho hd ?_
    have q := fin _ H1 s.toks (I.tok (s.toks + 1)) (Same.refl H1)
    rw [listText_nil] at q
    exact q
  | cons y its =>
    refine wpAny_list_repr_head (A := A.in1) lo.gd (fun v rest kw hm => listSameRef_of_ne (hca _ _ _ _ hm)) ho hd ?_
    refine wpAny_bind (m := newList []) (wpAny_newObj_type ?_)
    refine wpAny_pure ⟨PySem.F.quiet_list_repr_loop _, ?_⟩
    have fp := I.fpOk (H' := H1) (Nat.le_refl _) (I.hok.fresh (Nat.le_refl _))
    have q := lst_turns (P := s.heap.objs.size) (R := R) lo (fun b hb => hcl b (List.mem_cons_of_mem _ hb)) hna (fun i x h => let ⟨t, h1, h2⟩ := hit i x h; ⟨t, h1, h2.grow hs⟩) hl hsz (hs.seq hq) (Nat.ne_of_lt (Heap.lt_size ho)) fin bad
      xs.length 0 { s with heap := s.heap.push { cls := .type "list", dict := none, data := .seq [].toArray } } H1 #[] _ [] rfl (Nat.zero_le _) (I.kept (t' := s.toks) fun b o e => Heap.get?_push_of_some _ e) (Same.refl H1) fp (Heap.get?_push_size _ rfl) rfl rfl
    rw [show base + piled (List.take 0 ts) = base by simp [piled]] at q
    exact q
theorem says_lst (hq : SqL X.K H a xs) (hna : a ∉ as) (hl : ts.length = xs.length) (hit : ∀ (i : Nat) (x : V), xs[i]? = some x → ∃ t, ts[i]? = some t ∧ Says X n as H x t) : Says X (n + 2) (a :: as) H (.ref a) (listText ts) := by
  refine ⟨fun A g base pins s σ H1 u lo cl I hs ru hz => ?_, fun A g pins s σ H1 u lo cl I hs ru hz => ?_⟩
  · cases ru
    obtain ⟨its, rv, ⟨oa, na, ho, hc, _, hd⟩, _⟩ := I.list (hs.seq hq)
    refine wpAny_pyReprUnder_ref (by omega) (wpAny_pyReprObjUnder_twin (twin := "list.__repr__.under") ⟨oa, ho, hc⟩ PySem.F.slot_list_repr.toG rfl lo.rm.units0
      (call_twin_plain PySem.F.plain_list_repr_under PySem.F.entry_list_repr_under PySem.F.check_list_repr_under ⟨oa, ho, hc⟩ PySem.F.slot_list_repr.toG (PySem.F.args_list_repr_1 _) ?_))
    exact lst_body (R := callEnd _ _) (lo.mono (by omega)) cl hna hit hl hz hq I hs (fun s2 H2 tk I2 e2 => ⟨⟨_, _, rfl⟩, _, _, rfl, rfl, H2, I2, e2⟩) fun e s2 he => he
  · cases ru
    obtain ⟨its, rv, ⟨oa, na, ho, hc, _, hd⟩, _⟩ := I.list (hs.seq hq)
    have h1 := lo.rm.units
    refine call_repr_slot (by omega) ⟨oa, ho, hc⟩ PySem.F.slot_list_repr.toG (wpAny_call (codeAny_call_builtin PySem.F.slot_list_repr.plain PySem.F.entry_list_repr (PySem.F.slot_list_repr.check _ _ _ _ _ _ _ _ ⟨oa, ho, hc⟩ (PySem.F.args_list_repr_1 _) ?_)))
    exact lst_body (A := A.in1) (base := 0) (R := callEnd _ _) lo.in1 cl hna hit hl (by omega) hq I hs (fun s2 H2 tk I2 e2 => ⟨_, _, rfl, ⟨_, rfl⟩, H2, I2, e2⟩) fun e s2 he => he
end

/-! ### instances of an own class with an own __repr__ -/
section
variable {X : Cx} {n : Nat} {H : Hp} {a C dx f : Addr} {fs : List (Str × V)} {fd : FuncData} {ps : List Str} {sp : Sp} {CX : CXT} {E : XK} {t : Str} {g : List Code} {A : Around} {pins : List (Addr × Obj)} {σ : L2.St} {s : Shared}
/-- a method of one argument, called from beneath X -/
theorem own_run (F : FnOk X.prog X.w X.K X.mg X.base CX n f fd ps sp) (hb : Binds X.K fd ps []) (hx : Passes CX X E) (lo : Low X n g A) (I : Inv X pins σ H s) {Q : VK} (hsp : sp [.ref a] H Q E) :
    wpAny (model X.prog X.w) A (call (.ref f) [.ref a]) (EP X pins σ Q) X.xe s := by
  have e := I.env0
  have e0 : Env0 X.prog X.w X.K X.mg X.base A X.stack s H := ⟨lo.fr.trans e.frames, e.mod, e.bs, e.bsz, e.funs, e.frf, e.hok, e.bare⟩
  have hl := F.len _ _ _ _ hsp
  have bt := hb s [.ref a] I.kIn (by simpa using hl)
  rw [List.append_nil] at bt
  refine wpAny_call (codeAny_mono (F.run A X.stack s H ⟨[.ref a], []⟩ [.ref a] [.ref a] Q E lo.rm e0 bt (.cons rfl .nil) hsp) fun r s' hq => ?_)
  match r, hq with
  | .error e, hq => exact hx pins σ H s e s' I hq
  | .ok (.ret w), hq => exact I.after hq
theorem own_by {M : Model} {last : Value → List Value → Sem Value} {Q : Option Value → Shared → Prop} {E : Value → Shared → Prop} {K : PySem.W.Frag} {x : Addr} {ox : Obj} {od : Option Obj} {name : Str} (kx : K.In s.heap) (J : PySem.W.InstAt s.heap x ox C od)
    (hs : PySem.W.findIn K (.ref C) name = some (some (.ref f))) (hf : PySem.W.isFn K (.ref f) = true) (h : wpAny M A (last (.ref f) [.ref x]) (fun v => Q (some v)) E s) : wpAny M A (callSpecialIfBoundBy? last (.ref x) name) Q E s := by
  have done : wpAny M A (last (.ref f) [.ref x] >>= fun v => pure (some v)) Q E s := wpAny_bind (wpAny_mono h (fun _ _ q => wpAny_pure q) fun _ _ q => q)
  have bd := PySem.W.bind_fn (M := M) kx (.ref x) (beq_iff_eq.mp hf)
  simp only [callSpecialIfBoundBy?, bindSpecialIfBound?]
  refine wpAny_holding (wpAny_bind (wpAny_bind (wpAny_bind (J.type.here ((PySem.W.looks_findIn kx hs).here (wpAny_bind (wpAny_askSetting (wpAny_ite ?_))))))))
  split
  · exact wpAny_bind (bd.here (wpAny_pure done))
  · exact wpAny_tryCatch (wpAny_bind (bd.here (wpAny_pure done)))
theorem says_own (F : FnOk X.prog X.w X.K X.mg X.base CX n f fd ps sp) (hs : PySem.W.findIn X.K (.ref C) "__repr__" = some (some (.ref f))) (hf : PySem.W.isFn X.K (.ref f) = true) (hb : Binds X.K fd ps []) (hx : Passes CX X E)
    (ha : H a = some (.ins C dx fs)) (hsp : ∀ H1, Same H H1 → sp [.ref a] H1 (fun v H2 => v = .str t ∧ Same H1 H2) E) : Says X (n + 1) [] H (.ref a) t := by
  have turn : ∀ {A : Around} {g : List Code} {pins : List (Addr × Obj)} {s : Shared} {σ : L2.St} {H1 : Hp}, Low X n g A → Inv X pins σ H1 s → Same H H1 →
      wpAny (model X.prog X.w) A (call (.ref f) [.ref a]) (fun r s' => ∃ tk, r = .str t tk ∧ ∃ H2, Inv X pins σ H2 s' ∧ Same H1 H2) X.xe s := fun lo I e =>
    wpAny_mono (own_run F hb hx lo I (hsp _ e)) (fun r s' q => by
      obtain ⟨v, H2, I2, r2, ev, e2⟩ := q
      subst ev
      obtain ⟨tk, rfl⟩ := r2
      exact ⟨tk, rfl, H2, I2, e2⟩) fun _ _ q => q
  refine ⟨fun A g base pins s σ H1 u lo cl I e ru hz => ?_, fun A g pins s σ H1 u lo cl I e ru hz => ?_⟩
  · cases ru
    obtain ⟨mA, O, _⟩ := ins_get I.hok (e _ _ ha)
    obtain ⟨od, J, _⟩ := O.look
    have hu := lo.rm.units0
    refine wpAny_pyReprUnder_ref (by omega) ?_
    unfold pyReprObjUnder pyReprObjBy
    refine wpAny_bind (wpAny_cRoomFor hu (wpAny_bind (wpAny_bind (J.type.here ((PySem.W.looks_findIn I.kIn hs).here ?_)))))
    show wpAny _ _ (if (some (Value.ref f)).isNone = true then _ else _) _ _ _
    rw [if_neg (by simp)]
    refine wpAny_bind (own_by I.kIn J hs hf ?_)
    show wpAny _ _ (call (.ref f) [.ref a]) _ _ _
    refine wpAny_mono (turn (lo.mono (Nat.le_succ n)) I e) (fun r s2 q => ?_) fun _ _ q => q
    obtain ⟨tk, rfl, q⟩ := q
    exact wpAny_bind (wpAny_isInstance (typeIs_str _ _ _) isSubtype_str_str (wpAny_pure ⟨t, tk, rfl, rfl, q⟩))
  · cases ru
    obtain ⟨mA, O, _⟩ := ins_get I.hok (e _ _ ha)
    obtain ⟨od, J, _⟩ := O.look
    obtain ⟨m, hF⟩ := I.fr
    refine PySem.W.repr_K lo.in1.rm.units0 hF I.ok.mod.kin J hs hf (wpAny_mono (turn lo.in1 I e) (fun r s2 q => ?_) fun _ _ q => q)
    obtain ⟨tk, rfl, q⟩ := q
    exact ⟨⟨tk, rfl⟩, q⟩
end

/-! ### repr(x) in a body whose guards are known to be none -/
section
variable {X : Cx}
def rRepr (X : Cx) (n : Nat) : List V → Hp → VK → Prop := fun vs H Q => ∃ (v : V) (t : Str) (as : List Addr), vs = [v] ∧ Says X n as H v t ∧ t.length ≤ sizeLine ∧ ∀ H2, Same H H2 → Q (.str t) H2
theorem cr_repr {n : Nat} (hr : Room n X.A) (hg : X.A.guards = some []) : CallR X (.builtin "repr") (rRepr X n) := by
  intro pins s σ H vs us Q I r h
  obtain ⟨v, t, as, rfl, hv, hz, q⟩ := h
  obtain ⟨u, rfl, ru⟩ := vals1 r
  refine wpAny_mono (hv.top X.A [] pins s σ H u ⟨hr, rfl, hg⟩ (fun b _ => Clear.nil b) I (Same.refl H) ru hz) (fun w s2 k => ?_) fun _ _ k => k
  obtain ⟨⟨tk, rfl⟩, H2, I2, e2⟩ := k
  exact ⟨.str t, H2, I2, ⟨tk, rfl⟩, q H2 e2⟩
/-- repr(True), repr(False): whatever guards run -/
theorem cr_reprB : CallR X (.builtin "repr") (fun vs H Q => ∃ b : Bool, vs = [.bl b] ∧ Q (.str (if b then "True" else "False" : String)) H) := by
  intro pins s σ H vs us Q I r h
  obtain ⟨b, rfl, q⟩ := h
  obtain ⟨u, rfl, ru⟩ := vals1 r
  cases ru
  refine PySem.P.repr_of_bool ⟨.str (if b then "True" else "False" : String), H, I.tok _, ⟨s.toks, ?_⟩, q⟩
  cases b <;> rfl
end
end Rp
/-! defs that know that no guard runs around them, and the law's end for such a def -/
namespace Rp
open PySem PySem.Spec PyProof.Rows L2
/-- the promise of a def, where no guard runs around the call -/
structure FnG (P : Program) (w : World) (K : PySem.W.Frag) (mg : Str → Option Value) (base : Heap) (CX : CXT) (k : Nat) (f : Addr) (fd : FuncData) (ps : List Str) (sp : Sp) : Prop where
  len : ∀ vs H Q E, sp vs H Q E → vs.length = ps.length
  go : ∀ (A : Around) (outer : List Env) (s : Shared) (H : Hp) (args : Args) (us : List Value) (vs : List V) (Q : VK) (E : XK), A.guards = some [] → Room k A →
    Env0 P w K mg base A outer s H → BindsTo s fd args (ps.zip us) → Vals vs us → sp vs H Q E → codeAny (model P w) A (.call (.ref f) args) (CR CX outer P w H s Q E) s
section
variable {P : Program} {w : World} {K : PySem.W.Frag} {mg : Str → Option Value} {base : Heap} {CX : CXT} {k : Nat} {f : Addr} {fd : FuncData} {ps : List Str} {sp : Sp}
theorem FnG.of (F : FnOk P w K mg base CX k f fd ps sp) : FnG P w K mg base CX k f fd ps sp := ⟨F.len, fun A outer s H args us vs Q E _ => F.run A outer s H args us vs Q E⟩
/-- a def by its body; the body may use that no guard runs -/
theorem fn_bodyG {name qual : Str} {params : Arguments} {body : List Stmt} {scope : Scope} {dV kV doc pm cdv ct oc : Value} {an od : Option Addr} {osl : Array (Option Value)} {N : List Str}
    (lk : K.lookup f = some ⟨oc, od, .func (PySem.W.fnOf name qual params body scope dV kV doc pm an cdv ct), osl⟩) (hcd : PySem.W.codeIn K cdv qual = true) (S : FnScope N ps scope) (len : ∀ vs H Q E, sp vs H Q E → vs.length = ps.length)
    (hbody : ∀ (A : Around) (outer : List Env) (s : Shared) (H : Hp) (vs : List V) (Q : VK) (E : XK), A.guards = some [] → Room k (A.deeper (envOfC qual scope s.heap.objs.size f cdv)) → sp vs H Q E →
      ∃ t, PSs (cxOf CX P w K mg base N qual scope f cdv A outer s H E) body t ∧ t { nx := fun _ H' => Q .non H', rt := Q } (start N vs) H) :
    FnG P w K mg base CX (k + 1) f (PySem.W.fnOf name qual params body scope dV kV doc pm an cdv ct) ps sp := by
  refine ⟨len, fun A outer s H args us vs Q E gd hr e0 hb rv hsp => ?_⟩
  have here : ∀ b o, base.get? b = some o → s.heap.get? b = some o := fun b o e => (e0.bs b o e).1
  have kx : K.In s.heap := e0.mod.kin.keeps here
  have lim : s.heap.NoLimit := e0.mod.nolimit.keeps here
  have kinds : ∀ y ∈ ps.zip us, scope.names.lookup y.1 = some .local ∨ (scope.names.lookup y.1 = some .cell ∧ ((cellsFrom (s.heap.objs.size + 1) scope.names []).lookup y.1).isSome = true) := by
    rintro ⟨n, v⟩ hy
    exact (S.par n (List.of_mem_zip hy).1).imp id fun q => ⟨q, PySem.W.cellsFrom_some _ _ _ (.inl q)⟩
  refine codeAny_call_function hr.depth (kx _ _ lk) rfl S.co S.gen rfl (PySem.W.codeRec_of kx hcd) (hb _ _ _ _ (wpAny_newFunctionEnv_cells S.kind kinds fun env he s1 ic => ?_))
  subst he
  refine ⟨lim.keeps ic.toInCall.keep, codeAny_func ?_⟩
  obtain ⟨t, ht, hq⟩ := hbody A outer s H vs Q E gd (hr.deeper _) hsp
  have I : L2.Inv (cxOf CX P w K mg base N qual scope f cdv A outer s H E) [] (start N vs) H s1 := inv_start S hr.hd e0 (len _ _ _ _ hsp) rv ic
  refine wpAny_mono (ht.run [] s1 (start N vs) H _ I hq) (fun fl s' hs => ?_) fun e s' hs => hs
  cases fl with
  | next =>
    obtain ⟨σ', H', J, q⟩ := hs
    exact ⟨V.non, H', J.os, J.bare, J.base, J.hok, (rfl : RelV .non Value.none), q⟩
  | ret u =>
    obtain ⟨v, σ', H', J, rv, q⟩ := hs
    exact ⟨v, H', J.os, J.bare, J.base, J.hok, rv, q⟩
  | brk => exact hs.elim fun _ z => z.elim fun _ z => z.2.elim
  | cont => exact hs.elim fun _ z => z.elim fun _ z => z.2.elim
theorem Fun_okG {x qual : Str} {st : Stmt} {N : List Str} (F : Fun K x qual st f fd) (S : FnScope N ps (defScope st)) (len : ∀ vs H Q E, sp vs H Q E → vs.length = ps.length)
    (body : ∀ (cdv : Value) (A : Around) (outer : List Env) (s : Shared) (H : Hp) (vs : List V) (Q : VK) (E : XK), A.guards = some [] →
      Room k (A.deeper (envOfC qual (defScope st) s.heap.objs.size f cdv)) → sp vs H Q E →
      ∃ t, PSs (cxOf CX P w K mg base N qual (defScope st) f cdv A outer s H E) (defBody st) t ∧ t { nx := fun _ H' => Q .non H', rt := Q } (start N vs) H) : FnG P w K mg base CX (k + 1) f fd ps sp := by
  obtain ⟨oc, od, kV, doc, pm, an, cdv, ct, osl, rfl, lk, hcd⟩ := F.ex
  exact fn_bodyG lk hcd S len fun A outer s H vs Q E gd hr hsp => body cdv A outer s H vs Q E gd hr hsp
theorem Fun_okG0 {x qual : Str} {st : Stmt} {N : List Str} (F : Fun K x qual st f fd) (S : FnScope N ps (defScope st)) (len : ∀ vs H Q E, sp vs H Q E → vs.length = ps.length)
    (body : ∀ (cdv : Value) (A : Around) (outer : List Env) (s : Shared) (H : Hp) (vs : List V) (Q : VK) (E : XK), A.guards = some [] →
      Room k (A.deeper (envOfC qual (defScope st) s.heap.objs.size f cdv)) → sp vs H Q E →
      ∃ t, PSs (cxOf CX0 P w K mg base N qual (defScope st) f cdv A outer s H E).nox (defBody st) t ∧ t { nx := fun _ H' => Q .non H', rt := Q } (start N vs) H) : FnG P w K mg base CX0 (k + 1) f fd ps sp :=
  Fun_okG F S len fun cdv A outer s H vs Q E gd hr hsp => let ⟨t, h, q⟩ := body cdv A outer s H vs Q E gd hr hsp; ⟨t, h.nox, q⟩
end

/-! ### the call of such a def -/
section
variable {X : Cx} {CX : CXT} {k : Nat} {f : Addr} {fd : FuncData} {ps : List Str} {sp : Sp} {dvs : List V} {ds : List Value} {E : XK} {x : Str} {p pos : Pos} {e : Expr} {es : List Expr} {t : TA}
theorem run_fnG {pins : List (Addr × Obj)} {σ : L2.St} {H : Hp} {s : Shared} {Q : VK} {us : List Value} {vs : List V} (F : FnG X.prog X.w X.K X.mg X.base CX k f fd ps sp) (hg : X.A.guards = some []) (hr : Room k X.A) (hb : Binds X.K fd ps ds) (hd : Vals dvs ds)
    (hx : Passes CX X E) (I : Inv X pins σ H s) (r : Vals vs us) (h : sp (vs ++ dvs) H Q E) : wpAny (model X.prog X.w) X.A (call (.ref f) us) (EP X pins σ Q) X.xe s := by
  have all := r.append hd
  have hl := all.length.symm.trans (F.len _ _ _ _ h)
  refine wpAny_call (codeAny_mono (F.go X.A X.stack s H ⟨us, []⟩ (us ++ ds) (vs ++ dvs) Q E hg hr I.env0 (hb s us I.kIn hl) all h) fun r s' hq => ?_)
  match r, hq with
  | .error e, hq => exact hx pins σ H s e s' I hq
  | .ok (.ret u), hq => exact I.after hq
theorem pe_callG (F : FnG X.prog X.w X.K X.mg X.base CX k f fd ps sp) (hgd : X.A.guards = some []) (hr : Room k X.A) (hg : Gl X x) (hm : X.mg x = some (.ref f)) (hk : PySem.W.keepIn X.K (.ref f) = true) (hb : Binds X.K fd ps ds) (hd : Vals dvs ds) (hx : Passes CX X E)
    (ha : PA X (e :: es) t) (hdb : (x == ("__debug__" : Str)) = false := by decide) (he : starEach (e :: es) X.env = (false, eval e X.env) :: starEach es X.env := by rfl) (hpl : (backTo pos (starEach es X.env)).any (·.1) = false := by rfl) :
    PE X (.Call (.Name x p) (e :: es) [] pos) (tCall sp dvs E t) :=
  ⟨fun pins s σ H Q I h => wpAny_Call_Name_kw (ld_glob I hg hm (PySem.W.callWith_K (h₀ := X.base) I.ok.mod.kin hk (thn (ha.run pos pins s σ H _ I h) fun us s1 ⟨vs, H1, I1, r, q⟩ => ⟨I1.kIn, run_fnG F hgd hr hb hd hx I1 r q⟩) he hpl) hdb)⟩
end

/-! ### the law's end -/
/-- what stands tracked at the law's entry: the script alone, or nothing -/
def atScript (a : Addr) (u : HO) : Hp := fun b => if b = a then some u else none
theorem law_atG {P : Program} {w : World} {K : PySem.W.Frag} {mg mb : Str → Option Value} {CX : CXT} {k : Nat} {fa a : Addr} {fd : FuncData} {x : Str} {sp : Sp} {s₁ : Shared} {vs : List Value} {ns : List Int}
    (KX : K.In s₁.heap) (hns : s₁.heap.Ns mainGlobals mg) (hb : s₁.heap.Ns builtinsNs mb) (hbb : ∀ x : Str, x ≠ "__name__" → mb x = bootBuiltins x) (hlim : s₁.heap.NoLimit) (hg : s₁.gens = #[])
    (ha : s₁.heap.get? a = some { cls := .type "list", data := .seq vs.toArray }) (hr : Room k callerA)
    (F : ∀ base : Heap, K.In base → base.Ns mainGlobals mg → FnG P w K mg base CX k fa fd [x] sp) (hbind : ∀ (s : Shared) (u : Value), BindsTo s fd ⟨[u], []⟩ [(x, u)])
    (hCX : ∀ H e s', CX [] H s₁ (fun _ _ _ => False) e s' → False) (H : Hp) (hA : ∀ b, H b ≠ none → b = a) (hF : ∀ u, H a = some u → ∃ o xs, u = .frz o (.lst xs)) (hok : HOk P w H s₁.heap) (hK : H a ≠ none → K.lookup a = none)
    (hsp : sp [.ref a] H (fun v _ => v = .bl true) fun _ _ _ => False) :
    codeAny (model P w) callerA (.call (.ref fa) ⟨[.ref a], []⟩) (fun r s' => r = .ok (.ret (.bool true)) ∧ OldK s₁.heap s'.heap ∧ s'.os = s₁.os ∧ AllBare s'.gens) s₁ := by
  have split : ∀ b u, H b = some u → b = a := fun b u e => hA b fun z => by rw [z] at e; cases e
  have dictless : ∀ {b : Addr} {o : Obj} {es : Array DictEntry} {ep : Nat}, s₁.heap.get? b = some o → o.data = .dict es ep → H b = none := fun {b o es ep} e d => by
    cases q : H b with
    | none => rfl
    | some u =>
      have z := split b u q
      subst z
      rw [ha] at e
      cases e
      cases (show Data.seq vs.toArray _ = Data.dict es ep from d)
  have names : ∀ {b : Addr} {m : Str → Option Value}, s₁.heap.Ns b m → (hidT s₁.heap H).Ns b m := fun {b m} h => by
    obtain ⟨o, es, ep, e, d, r⟩ := h
    exact ⟨o, es, ep, hidT_get e (dictless e d), d, r⟩
  have kb : K.In (hidT s₁.heap H) := fun b o e => hidT_get (KX b o e) (by
    cases q : H b with
    | none => rfl
    | some u =>
      have z := split b u q
      subst z
      rw [hK fun z => by rw [q] at z; cases z] at e
      cases e)
  have M : Mod K mg (hidT s₁.heap H) := by
    obtain ⟨mc, h1, h2⟩ := hlim
    exact ⟨kb, names hns, ⟨mb, names hb, hbb⟩, ⟨mc, names h1, h2⟩⟩
  have e0 : Env0 P w K mg (hidT s₁.heap H) callerA [] s₁ H :=
    { frames := rfl, mod := M, bs := fun b o e => of_hidT e, bsz := Nat.le_of_eq (hidT_size _ _), funs := trivial, frf := fun b hb => (by simp [frs] at hb), hok := hok, bare := .of_eq hg }
  refine codeAny_mono ((F _ kb (names hns)).go callerA [] s₁ H ⟨[.ref a], []⟩ [.ref a] [.ref a] _ _ rfl hr e0 (hbind s₁ (.ref a)) (.cons rfl .nil) hsp) fun r s' h => ?_
  match r, h with
  | .error e, h => exact (hCX H e s' h).elim
  | .ok (.ret u), ⟨v, H', os, bare, un, hok', rv, q⟩ =>
    have ev : v = .bl true := q
    subst ev
    have eu : u = Value.bool true := rv
    subst eu
    refine ⟨rfl, OldK.of_keep fun b o e => ?_, os, bare⟩
    cases z : H b with
    | none => exact un.keep b o e z (by simp [frs]) (by simp)
    | some u =>
      have eb := split b u z
      subst eb
      obtain ⟨ob, xs, eu⟩ := hF u z
      subst eu
      obtain ⟨e1, _⟩ := hok b _ z
      obtain ⟨e2, _⟩ := hok' b _ (un.frzs b ob _ z)
      rw [e] at e1
      cases e1
      exact e2
theorem law_callG {P : Program} {w : World} {K : PySem.W.Frag} {mg mb : Str → Option Value} {CX : CXT} {k : Nat} {fa a : Addr} {fd : FuncData} {x : Str} {sp : Sp} {s₁ : Shared} {vs : List Value} {ns : List Int}
    (KX : K.In s₁.heap) (hns : s₁.heap.Ns mainGlobals mg) (hb : s₁.heap.Ns builtinsNs mb) (hbb : ∀ x : Str, x ≠ "__name__" → mb x = bootBuiltins x) (hlim : s₁.heap.NoLimit) (hg : s₁.gens = #[])
    (ha : s₁.heap.get? a = some { cls := .type "list", data := .seq vs.toArray }) (hi : IntsAre vs ns) (hl : ns.length ≤ sizeLine) (hr : Room k callerA)
    (F : ∀ base : Heap, K.In base → base.Ns mainGlobals mg → FnG P w K mg base CX k fa fd [x] sp) (hbind : ∀ (s : Shared) (u : Value), BindsTo s fd ⟨[u], []⟩ [(x, u)])
    (hsp : ∀ H : Hp, Only H → SqL K H a (ns.map V.int) → sp [.ref a] H (fun v _ => v = .bl true) fun _ _ _ => False)
    (hCX : ∀ H e s', CX [] H s₁ (fun _ _ _ => False) e s' → False) :
    codeAny (model P w) callerA (.call (.ref fa) ⟨[.ref a], []⟩) (fun r s' => r = .ok (.ret (.bool true)) ∧ OldK s₁.heap s'.heap ∧ s'.os = s₁.os ∧ AllBare s'.gens) s₁ := by
  have rv := vals_ints hi
  have lenV := hi.length
  have main := law_atG (ns := ns) KX hns hb hbb hlim hg ha hr F hbind hCX
  cases hk : K.lookup a with
  | some o =>
    have e := KX a o hk
    rw [ha] at e
    cases e
    have nothing : Only fun _ => none := fun b => .inl rfl
    exact main (fun _ => none) (fun b z => absurd rfl z) (fun u z => by cases z) (fun b u z => by cases z) (fun z => absurd rfl z)
      (hsp _ nothing (.inr ⟨_, vs.toArray, _, hk, rfl, rfl, rfl, by rw [List.size_toArray, lenV]; exact hl, by simpa using rv⟩))
  | none =>
    have at_ : atScript a (.frz { cls := .type "list", data := .seq vs.toArray } (.lst (ns.map V.int))) a = some (.frz { cls := .type "list", data := .seq vs.toArray } (.lst (ns.map V.int))) := if_pos rfl
    have off : ∀ b, b ≠ a → atScript a (.frz { cls := .type "list", data := .seq vs.toArray } (.lst (ns.map V.int))) b = none := fun b hb => if_neg hb
    refine main (atScript a (.frz { cls := .type "list", data := .seq vs.toArray } (.lst (ns.map V.int)))) (fun b z => Classical.byContradiction fun hb => z (off b hb)) (fun u z => ?_) (fun b u z => ?_) (fun _ => hk)
      (hsp _ (fun b => ?_) (.inl (.inr ⟨_, at_⟩)))
    · rw [at_] at z
      cases z
      exact ⟨_, _, rfl⟩
    · by_cases hb : b = a
      · subst hb
        rw [at_] at z
        cases z
        exact ⟨ha, by rw [List.length_map]; exact hl, vs, _, rv, ha⟩
      · rw [off b hb] at z
        cases z
    · by_cases hb : b = a
      · subst hb
        exact .inr ⟨_, _, at_⟩
      · exact .inl (off b hb)
/-- the goal that k_head leaves, from the law's promise where no guard runs -/
theorem walk_ofG {l : PySem.W.OpenLaw} {n k : Nat} {q : Program} {loose : List Str} {XP : (Str → Option Value) → Heap → Prop} {YP : World → Heap → Prop} {d : DefRec} {K : Params → PySem.W.Frag} {CX : World → CXT} {sp : World → Sp} {x : Str}
    (hn : l.most = some n) (hn2 : n ≤ sizeLine) (hdf : d.params.defaults = []) (hr : Room k callerA) (hY : ∀ (w : World) (h : Heap), YP w h → (K w.params).In h)
    (F : ∀ (w : World) (mg : Str → Option Value) (fa : Addr) (h : Heap), (K w.params).In h → h.Ns mainGlobals mg → mg d.name = some (.ref fa) →
      ∃ fd : FuncData, (∀ (s : Shared) (u : Value), BindsTo s fd ⟨[u], []⟩ [(x, u)]) ∧ ∀ base : Heap, (K w.params).In base → base.Ns mainGlobals mg → FnG l.prog w (K w.params) mg base (CX w) k fa fd [x] (sp w))
    (hsp : ∀ (w : World) (H : Hp) (a : Addr) (ns : List Int), ns.length ≤ n → Only H → SqL (K w.params) H a (ns.map V.int) → sp w [.ref a] H (fun v _ => v = .bl true) fun _ _ _ => False)
    (hCX : ∀ (w : World) (H : Hp) (s : Shared) (e : Value) (s' : Shared), CX w [] H s (fun _ _ _ => False) e s' → False) :
    PySem.W.WalkO q loose XP YP l.row.toRowW d [] (fun f vs => PySem.call f vs) :=
  Att.attach_call hn hdf fun w s₀ s₁ mg mb fa o pm cd doc a vs ns G Y ho hd hcd hmg hobj hints hlen hg =>
    let ⟨_, hb, hF⟩ := F w mg fa _ (hY w _ Y) G.T.g hmg
    law_callG (hY w _ Y) G.T.g G.T.b G.T.builtins G.T.nolimit hg hobj hints (Nat.le_trans hlen hn2) hr hF hb (fun H hO hS => hsp w H a ns hlen hO hS) fun H e s' => hCX w H s₁ e s'
end Rp
/-! sep.join(reversed(xs)), xs a list of texts -/
namespace Rp
open PySem PySem.Spec PyProof.Rows L2
section
variable {prog : Program} {w : World} {A : Around} {E : Value → Shared → Prop} {s : Shared} {x : Str} {t : Tok} {Q : Value → Shared → Prop}
theorem join_rev {it l : Addr} {items : Array Value} {ys : List Str} (hh : A.handled = none) (hit : s.heap.IsRevIter it l ((items.size : Int) - 1)) (hl : s.heap.IsList l items) (hne : l ≠ it) (hn : items.size ≤ sizeLine)
    (hi : StrsAre items.toList.reverse ys) (hok : (ys.map (·.length)).sum + ys.length * x.length ≤ 16777216)
    (h : ∀ (h' : Heap) (t' k : Tok), (∀ b o, b ≠ it → s.heap.get? b = some o → h'.get? b = some o) → Q (.str (Txt.join x ys) t') { s with heap := h', toks := k }) :
    wpAny (model prog w) A (call (.builtin "str.join") [.str x t, .ref it]) Q E s := by
  refine wpAny_call (codeAny_call_builtin F.slot_str_join.plain F.entry_str_join (F.slot_str_join.check _ _ _ _ _ _ _ _ (typeIs_str _ _ _) (F.args_str_join_2 _ _) ?_))
  have hT : s.TypeIs (.ref it) "list_reverseiterator" := Heap.IsRevIter.typeIs hit
  have hh1 : A.in1.handled = none := hh
  rw [join_tree_other]
  refine wpAny_bind (wpAny_typeOf hT ?_)
  show wpAny _ A.in1 ((pyIter (.ref it)).tryCatch _ >>= fun j => collect j >>= fun vs => joinTail x vs) _ _ s
  refine wpAny_bind (wpAny_tryCatch (wpAny_pyIter_revIter hit (wpAny_bind (RT.collect_rev (A := A.in1) hh1 hit hl hne hn fun h' tk acc hk hacc => ?_))))
  have el : acc.toList = items.toList.reverse := by
    have hs : items.size = items.toList.length := by simp
    have ha : acc.toList.length = items.toList.length := by rw [Array.length_toList, hacc.1, hs]
    refine List.ext_getElem? fun j => ?_
    by_cases hj : j < items.toList.length
    · have hja : j < acc.toList.length := by omega
      have e1 : acc.toList[j]? = some acc.toList[j] := List.getElem?_eq_getElem hja
      have e2 := hacc.2 j acc.toList[j] (by rw [← Array.getElem?_toList]; exact e1)
      rw [e1, List.getElem?_reverse hj, ← e2, hs] <;> simp
    · rw [List.getElem?_eq_none (by omega), List.getElem?_eq_none (by rw [List.length_reverse]; omega)]
  rw [el]
  obtain ⟨q, hv, ht⟩ := strsAre_values hi
  rw [hv]
  subst ht
  have ok := joinOk_of hok
  have ok' := ok
  unfold JoinOk at ok'
  rw [Bool.not_eq_true'] at ok'
  have g : Gives (joinTail x (strValues q)) (joinMade x q) := by
    have g0 := gives_joinTail x q ok'
    rcases q with _ | ⟨c, _ | ⟨d, r⟩⟩ <;> exact g0
  exact g prog w A (wants Q E) { s with heap := h', toks := tk } (post_join q ⟨joinFit_length ok', fun t' k => h h' t' k hk⟩)
end

section
variable {X : Cx} {o e : Expr} {to te : TE} {p2 apos pos pos2 : Pos}
/-- o.join(reversed(e)) -/
def tJoinRev (K : PySem.W.Frag) (to te : TE) : TE := fun σ H Q => to σ H fun v H1 => ∃ sep : Str, v = .str sep ∧ te σ H1 fun u H2 => ∃ (a : Addr) (ys : List Str), u = .ref a ∧ SqL K H2 a (ys.map V.str) ∧
  (ys.map (·.length)).sum + ys.length * sep.length ≤ 16777216 ∧ Q (.str (Txt.join sep ys.reverse)) H2
theorem pe_joinRev (hc : X.calm = true) (hg : Gl X "reversed") (hm : X.mg "reversed" = none) (ho : PE X o to) (he : PE X e te)
    (hs : starEach [e] X.env = (false, eval e X.env) :: starEach [] X.env := by rfl)
    (hs2 : starEach [.Call (.Name "reversed" p2) [e] [] pos2] X.env = [(false, eval (.Call (.Name "reversed" p2) [e] [] pos2) X.env)] := by rfl)
    (hbase : attributeBase o "join" X.env (eval o X.env) = eval o X.env := by rfl) (hline : (apos.endLine == pos.line) = true := by rfl) :
    PE X (.Call (.Attribute o "join" apos) [.Call (.Name "reversed" p2) [e] [] pos2] [] pos) (tJoinRev X.K to te) := by
  refine ⟨fun pins s σ H Q I h => ?_⟩
  refine PySem.Call_method1 hbase hs2 hline (thn (ho.run pins s σ H _ I h) fun v s1 k => ?_)
  obtain ⟨xv, H1, I1, r1, sep, rfl, q1⟩ := k
  obtain ⟨t, rfl⟩ := r1
  refine ⟨"str", _, F.plainAttrs_str, F.slot_str_join, F.type_str_join, typeIs_str _ _ _, (fun _ e => nomatch e), Calls.callWith_builtin rfl (Calls.evalArgs_plain (Calls.spliced_cons ?_))⟩
  refine Call_ (ld_blt I1 hg hm PyProof.Rows.boot_reversed (PyProof.Rows.callWith_type1 (args_cons (thn (he.run pins s1 σ H1 _ I1 q1) fun u s2 k => args_nil ?_) hs) hs rfl))
  obtain ⟨yv, H2, I2, r2, a, ys, rfl, hq, hz, q2⟩ := k
  obtain rfl : u = Value.ref a := r2
  obtain ⟨its, rv, pl, hsz⟩ := I2.list hq
  refine call_reversed_list pl.isList (Calls.spliced_nil ?_)
  have hl := pl.isList
  obtain ⟨ol, hol, _⟩ := id hl
  have grow : ∀ b o, s2.heap.get? b = some o → (s2.heap.push (revObj a ((its.toArray.size : Int) - 1))).get? b = some o := fun b o e => Heap.get?_push_of_some _ e
  have I3 : L2.Inv X pins σ H2 { s2 with heap := s2.heap.push (revObj a ((its.toArray.size : Int) - 1)) } := I2.kept (t' := s2.toks) grow
  obtain ⟨f0, f1, f2, f3, f4, f5⟩ := I2.fpOk (H' := H2) (b := s2.heap.objs.size) (Nat.le_refl _) (I2.hok.fresh (Nat.le_refl _))
  have st := strs_of_vals (us := its.reverse) (ys := ys.reverse) (by rw [List.map_reverse]; exact rv.reverse)
  refine join_rev (s := { s2 with heap := s2.heap.push (revObj a ((its.toArray.size : Int) - 1)) }) (items := its.toArray) (I1.ok.hd hc) ⟨_, Heap.get?_push_size _ rfl, rfl, rfl⟩ (hl.push _) (Nat.ne_of_lt (Heap.lt_size hol)) (by rw [List.size_toArray, ← rv.length]; exact hsz)
    (by simpa using st) (by simpa [List.sum_reverse] using hz) fun h' t' k hk => ?_
  exact ⟨.str _, H2, I3.turned (t' := k) (fun b o hb e => hk b o hb e) f0 f1 f3 f4 f5, ⟨t', rfl⟩, q2⟩
end
end Rp
namespace K
open PySem L2 Rp
/-! ### the text by places -/
def top (i : Nat) : Stmt := PySem.Challenge.pw_casknotes_k06_below_nought_whole_up_tota.main.body.getD i (.Pass ⟨0, 0, 0, 0⟩)
abbrev sShow : Stmt := top 12
abbrev sWhole : Stmt := top 14
abbrev sInit : Stmt := inClass (top 16) 0
abbrev sRepr : Stmt := inClass (top 16) 3
abbrev sPlus : Stmt := inClass (top 16) 4
abbrev sBelow : Stmt := inClass (top 16) 7
abbrev sNought : Stmt := inClass (top 16) 8
abbrev sUp : Stmt := inClass (top 16) 9
abbrev sTotal : Stmt := top 17
abbrev sDeck : Stmt := top 19
abbrev sDraw : Stmt := top 20
abbrev sLWhole : Stmt := top 21
abbrev sDiv : Stmt := top 22
abbrev sTwo : Stmt := top 23
abbrev sLow : Stmt := top 24
abbrev sIs : Stmt := top 25
abbrev sAlone : Stmt := top 26
abbrev sNear : Stmt := top 27
abbrev sSum : Stmt := top 28
abbrev sLaw : Stmt := top 29

/-! ### decks -/
def DeckAt (H : Hp) (d : Addr) : Prop := ∃ a b c : Int, H d = some (.lst [.int a, .int b, .int c])

/-! ### promises -/
def spWhole (K : PySem.W.Frag) : Sp := fun vs H Q _ => ∃ n : Int, vs = [.int n] ∧ Q (.bl true) H
def spDeck : Sp := fun vs H Q _ => ∃ n : Int, vs = [.int n] ∧ ∀ p, H p = none → ∀ H', DeckAt H' p → (∀ b, b ≠ p → H' b = H b) → Q (.ref p) H'
def spDraw : Sp := fun vs H Q _ => ∃ (d : Addr) (m : Int), vs = [.ref d, .int m] ∧ 0 < m ∧ m < 1073741824 ∧ DeckAt H d ∧ ∀ r : Int, 0 ≤ r → r < m → ∀ H', DeckAt H' d → (∀ b, b ≠ d → H' b = H b) → Q (.int r) H'

/-- what the built-in names hold -/
structure Blt (mg : Str → Option Value) : Prop where
  isi : mg "isinstance" = none
  int : mg "int" = none
  bool : mg "bool" = none

section
variable {P : Program} {w : World} {K : PySem.W.Frag} {mg : Str → Option Value} {base : Heap}
theorem scWhole : FnScope ["thing"] ["thing"] (defScope sWhole) := ⟨rfl, rfl, rfl, by decide +kernel, rfl, by decide +kernel, by decide +kernel⟩
theorem ok_whole {f : Addr} {fd : FuncData} (F : Fun K "is_whole" "is_whole" sWhole f fd) (B : Blt mg) : FnOk P w K mg base CX0 1 f fd ["thing"] (spWhole K) := by
  refine F.ok scWhole (fun vs H Q E h => ?_) (fun cdv A outer s H vs Q E hr h => ?_)
  · obtain ⟨n, rfl, _⟩ := h
    rfl
  · obtain ⟨n, rfl, k⟩ := h
    refine ⟨_, pss_one (ps_ret (pe_and (pe_callB call_isi (by rfl) B.isi (by decide +kernel) (pa_cons (pv 0) (pa_cons (pe_bltn (v := .ty "int") (by rfl) B.int (by decide +kernel) rfl) pa_nil)))
      (pe_one (pe_not (pe_callB call_isi (by rfl) B.isi (by decide +kernel) (pa_cons (pv 0) (pa_cons (pe_bltn (v := .ty "bool") (by rfl) B.bool (by decide +kernel) rfl) pa_nil))))))), ?_⟩
    refine ⟨_, rfl, _, .ty "int", _, _, true, rfl, .ty _, .base (.int _), kit_ty (by decide +kernel), true, rfl, ?_⟩
    refine iteT ?_
    refine ⟨_, rfl, _, .ty "bool", _, _, false, rfl, .ty _, .base (.int _), kit_ty (by decide +kernel), false, rfl, ?_⟩
    exact k
theorem scLWhole : FnScope ["_law_thing"] ["_law_thing"] (defScope sLWhole) := ⟨rfl, rfl, rfl, by decide +kernel, rfl, by decide +kernel, by decide +kernel⟩
theorem ok_lwhole {f : Addr} {fd : FuncData} (F : Fun K "_law_whole" "_law_whole" sLWhole f fd) (B : Blt mg) : FnOk P w K mg base CX0 1 f fd ["_law_thing"] (spWhole K) := by
  refine F.ok scLWhole (fun vs H Q E h => ?_) (fun cdv A outer s H vs Q E hr h => ?_)
  · obtain ⟨n, rfl, _⟩ := h
    rfl
  · obtain ⟨n, rfl, k⟩ := h
    refine ⟨_, pss_one (ps_ret (pe_and (pe_callB call_isi (by rfl) B.isi (by decide +kernel) (pa_cons (pv 0) (pa_cons (pe_bltn (v := .ty "int") (by rfl) B.int (by decide +kernel) rfl) pa_nil)))
      (pe_one (pe_not (pe_callB call_isi (by rfl) B.isi (by decide +kernel) (pa_cons (pv 0) (pa_cons (pe_bltn (v := .ty "bool") (by rfl) B.bool (by decide +kernel) rfl) pa_nil))))))), ?_⟩
    refine ⟨_, rfl, _, .ty "int", _, _, true, rfl, .ty _, .base (.int _), kit_ty (by decide +kernel), true, rfl, ?_⟩
    refine iteT ?_
    refine ⟨_, rfl, _, .ty "bool", _, _, false, rfl, .ty _, .base (.int _), kit_ty (by decide +kernel), false, rfl, ?_⟩
    exact k
end
end K
namespace K
open PySem L2 Rp
section
variable {P : Program} {w : World} {K : PySem.W.Frag} {mg : Str → Option Value} {base : Heap}
theorem scDeck : FnScope ["_law_cell"] ["_law_cell"] (defScope sDeck) := ⟨rfl, rfl, rfl, by decide +kernel, rfl, by decide +kernel, by decide +kernel⟩
theorem ok_deck {f : Addr} {fd : FuncData} (F : Fun K "_law_deck" "_law_deck" sDeck f fd) (B : Blt mg) : FnOk P w K mg base CX0 1 f fd ["_law_cell"] spDeck := by
  refine F.ok scDeck (fun vs H Q E h => ?_) (fun cdv A outer s H vs Q E hr h => ?_)
  · obtain ⟨n, rfl, _⟩ := h
    rfl
  · obtain ⟨n, rfl, k⟩ := h
    refine ⟨_, pss_one (ps_ret (pe_lst (pa_cons (pe_op op_mul (pv 0) (pe_callTy call_int1 (by rfl) B.int (by decide +kernel) (pa_cons (pe_cmpR op_ge (pv 0) (pe_op op_pow pe_int pe_int) (nomark _)) pa_nil)))
      (pa_cons (pe_op op_mod (pv 0) pe_int) (pa_cons pe_int pa_nil))))), ?_⟩
    refine ⟨_, rfl, _, rfl, _, _, rfl, rfl, (by show (0:Int) ≤ 18 ∧ (18:Int) ≤ 1000000 ∧ (10:Int).natAbs < 2 ^ 64; decide), _, _, rfl, rfl, .inr ⟨_, rfl, ?_⟩⟩
    refine ⟨_, _, rfl, rfl, .inr (by split <;> decide), ?_⟩
    refine ⟨_, rfl, _, _, rfl, rfl, (by show (0:Int) < 2147483587; decide), ?_⟩
    refine ⟨(by show 3 ≤ sizeLine; decide), fun p hp => ?_⟩
    exact k p hp _ ⟨_, _, _, upd_same⟩ fun b hb => upd_ne hb
theorem scDraw : FnScope ["_law_deck_here", "_law_most", "_law_got", "_law_mixed"] ["_law_deck_here", "_law_most"] (defScope sDraw) := ⟨rfl, rfl, rfl, by decide +kernel, rfl, by decide +kernel, by decide +kernel⟩
theorem ix3 {a b c : V} : atI [a, b, c] (0 : Int) = some a ∧ atI [a, b, c] (1 : Int) = some b ∧ atI [a, b, c] (2 : Int) = some c := ⟨rfl, rfl, rfl⟩
theorem ok_draw {f : Addr} {fd : FuncData} (F : Fun K "_law_draw" "_law_draw" sDraw f fd) : FnOk P w K mg base CX0 1 f fd ["_law_deck_here", "_law_most"] spDraw := by
  refine F.ok scDraw (fun vs H Q E h => ?_) (fun cdv A outer s H vs Q E hr h => ?_)
  · obtain ⟨d, m, rfl, _⟩ := h
    rfl
  · obtain ⟨d, m, rfl, h0, h1, ⟨a, b, c, hd⟩, k⟩ := h
    refine ⟨_, pss_cons (ps_if (pt_cmpR op_gt (pe_ix ix_list (pv 0) pe_int (fun _ _ => rfl)) pe_int (nomark _))
        (pss_cons (ps_set (i := 2) scDraw.nd rfl (Or.inl rfl) (pe_op op_modN (pe_ix ix_list (pv 0) pe_int (fun _ _ => rfl)) (pv 1)))
        (pss_cons (ps_asg (pe_op op_fdivN (pe_ix ix_list (pv 0) pe_int (fun _ _ => rfl)) (pv 1)) (pg_sub (pv 0) pe_int set_list))
        (pss_one (ps_ret (pv 2))))) pss_nil)
      (pss_cons (ps_asg (pe_op op_add (pe_ix ix_list (pv 0) pe_int (fun _ _ => rfl)) pe_int) (pg_sub (pv 0) pe_int set_list))
      (pss_cons (ps_set (i := 3) scDraw.nd rfl (Or.inl rfl) (pe_op op_mod (pe_op op_mul (pe_op op_add (pe_op op_add (pe_ix ix_list (pv 0) pe_int (fun _ _ => rfl)) (pe_op op_mul pe_int (pe_ix ix_list (pv 0) pe_int (fun _ _ => rfl)))) pe_int) pe_int) pe_int))
      (pss_cons (ps_set (i := 3) scDraw.nd rfl (Or.inl rfl) (pe_op op_mod (pe_op op_add (pe_op op_add (pe_op op_mul (pv 3) (pv 3)) (pe_op op_mul pe_int (pv 3))) (pe_ix ix_list (pv 0) pe_int (fun _ _ => rfl))) pe_int))
      (pss_one (ps_ret (pe_op op_modN (pe_op op_fdiv (pe_op op_mod (pe_op op_mul (pv 3) pe_int) pe_int) pe_int) (pv 1))))))), ?_⟩
    refine ⟨_, rfl, d, _, _, _, rfl, rfl, SqL.of hd, ix3.1, _, _, rfl, rfl, _, rfl, ?_⟩
    refine ite2 (fun _ => ?_) (fun _ => ?_)
    · refine ⟨_, rfl, d, _, _, _, rfl, rfl, SqL.of hd, ix3.1, _, rfl, _, _, rfl, rfl, (by show m ≠ 0; omega), ?_⟩
      refine ⟨_, rfl, d, _, _, _, rfl, rfl, SqL.of hd, ix3.1, _, rfl, _, _, rfl, rfl, ⟨by omega, by omega⟩, ?_⟩
      refine ⟨_, rfl, d, _, _, 0, rfl, rfl, hd, rfl, ?_⟩
      refine ⟨_, rfl, ?_⟩
      exact k _ (Int.fmod_nonneg_of_pos a h0) (Int.fmod_lt_of_pos a h0) _ ⟨_, _, _, upd_same⟩ fun b hb => upd_ne hb
    · refine ⟨_, rfl, d, _, _, _, rfl, rfl, SqL.of hd, ix3.2.2, _, _, rfl, rfl, ?_⟩
      refine ⟨_, rfl, d, _, _, 2, rfl, rfl, hd, rfl, ?_⟩
      have hd2 : (upd H d (.lst ([V.int a, V.int b, V.int c].set 2 (.int (c + 1))))) d = some (.lst [.int a, .int b, .int (c + 1)]) := upd_same
      refine ⟨_, rfl, d, _, _, _, rfl, rfl, SqL.of hd2, ix3.2.1, _, rfl, d, _, _, _, rfl, rfl, SqL.of hd2, ix3.2.2, _, _, rfl, rfl, .inl (by decide), _, _, rfl, rfl, _, _, rfl, rfl, _, _, rfl, rfl, .inr (by decide), _, _, rfl, rfl, (by show (0:Int) < 2147483647; decide), ?_⟩
      refine ⟨_, rfl, _, rfl, _, _, rfl, rfl, .inl ⟨by omega, by omega⟩, _, rfl, _, _, rfl, rfl, .inl (by decide), _, _, rfl, rfl, _, rfl, d, _, _, _, rfl, rfl, SqL.of hd2, ix3.2.2, _, _, rfl, rfl, _, _, rfl, rfl, (by show (0:Int) < 2147483629; decide), ?_⟩
      refine ⟨_, rfl, _, _, rfl, rfl, .inr (by decide), _, _, rfl, rfl, (by show (0:Int) < 2147483563; decide), _, _, rfl, rfl, ⟨by decide, by decide⟩, _, rfl, _, _, rfl, rfl, (by show m ≠ 0; omega), ?_⟩
      exact k _ (Int.fmod_nonneg_of_pos _ h0) (Int.fmod_lt_of_pos _ h0) _ ⟨_, _, _, hd2⟩ fun b hb => upd_ne hb
end
end K
namespace K
open PySem L2 Rp
/-! ### the law's own gcd -/
theorem gcd_turn {c d : Int} (hc : 0 ≤ c) (hd : 0 ≤ d) : Int.gcd d (c % d) = Int.gcd c d := by
  obtain ⟨m, rfl⟩ := Int.eq_ofNat_of_zero_le hc
  obtain ⟨n, rfl⟩ := Int.eq_ofNat_of_zero_le hd
  show Nat.gcd n (m % n) = Nat.gcd m n
  rw [Nat.gcd_comm n, ← Nat.gcd_rec, Nat.gcd_comm]
def spDiv : Sp := fun vs H Q _ => ∃ a b : Int, vs = [.int a, .int b] ∧ 0 ≤ a ∧ 0 ≤ b ∧ Q (.int (Int.gcd a b : Nat)) H
section
variable {P : Program} {w : World} {K : PySem.W.Frag} {mg : Str → Option Value} {base : Heap}
theorem scDiv : FnScope ["_law_one", "_law_other"] ["_law_one", "_law_other"] (defScope sDiv) := ⟨rfl, rfl, rfl, by decide +kernel, rfl, by decide +kernel, by decide +kernel⟩
theorem ok_div {f : Addr} {fd : FuncData} (F : Fun K "_law_divides" "_law_divides" sDiv f fd) (hab : mg "abs" = none) : FnOk P w K mg base CX0 1 f fd ["_law_one", "_law_other"] spDiv := by
  refine F.ok scDiv (fun vs H Q E h => ?_) (fun cdv A outer s H vs Q E hr h => ?_)
  · obtain ⟨a, b, rfl, _⟩ := h
    rfl
  · obtain ⟨a, b, rfl, ha, hb, k⟩ := h
    refine ⟨_, pss_cons (ps_par (i := 0) (j := 1) rfl scDiv.nd rfl rfl (by decide) rfl rfl (pa_cons (pe_callB call_abs (by rfl) hab (by decide +kernel) (pa_cons (pv 0) pa_nil)) (pa_cons (pe_callB call_abs (by rfl) hab (by decide +kernel) (pa_cons (pv 1) pa_nil)) pa_nil)) (by rfl))
      (pss_cons (ps_while PassesOwn.never (pt_cmpR op_gt (pv 1) pe_int (nomark _)) (pss_one (ps_par (i := 0) (j := 1) rfl scDiv.nd rfl rfl (by decide) rfl rfl (pa_cons (pv 1) (pa_cons (pe_op op_modN (pv 0) (pv 1)) pa_nil)) (by rfl))))
      (pss_one (ps_ret (pv 0)))), ?_⟩
    refine ⟨_, rfl, _, rfl, _, rfl, _, rfl, _, _, rfl, ?_⟩
    rw [if_neg (show ¬ a < 0 by omega), if_neg (show ¬ b < 0 by omega)]
    refine while_by (fun σ H' => H' = H ∧ ∃ c d : Int, σ = [some (.int c), some (.int d)] ∧ 0 ≤ c ∧ 0 ≤ d ∧ Int.gcd c d = Int.gcd a b) (fun σ _ => match σ with | [_, some (.int d)] => d.toNat | _ => 0)
      ⟨rfl, a, b, rfl, ha, hb, rfl⟩ ?_ ?_
    · rintro σ H' ⟨rfl, c, d, rfl, hc, hd, hg⟩
      refine ⟨_, rfl, _, _, rfl, rfl, _, rfl, ?_⟩
      refine ite2 (fun h => ?_) (fun h => ?_)
      · have h' : 0 < d := by simpa using h
        refine ⟨_, rfl, _, rfl, _, rfl, _, _, rfl, rfl, (by show d ≠ 0; omega), _, _, rfl, ?_⟩
        have e : c.fmod d = c % d := Int.fmod_eq_emod_of_nonneg c (by omega)
        have e0 := Int.emod_nonneg c (by omega : d ≠ 0)
        have e1 := Int.emod_lt_of_pos c h'
        refine ⟨⟨rfl, d, c.fmod d, rfl, by omega, by omega, ?_⟩, ?_⟩
        · rw [← hg, e]
          exact gcd_turn hc hd
        · show (c.fmod d).toNat < d.toNat
          omega
      · have h' : d = 0 := by
          have : ¬ 0 < d := by simpa using h
          omega
        subst h'
        refine ⟨_, rfl, ?_⟩
        have e : c = ((Int.gcd a b : Nat) : Int) := by rw [← hg, Int.gcd_zero_right]; omega
        rw [e]
        exact k
    · rintro σ H' Q1 Q2 hQ ⟨v, e, i, j, h1, h2, c, h3, q⟩
      exact ⟨v, e, i, j, h1, h2, c, h3, hQ _ _ q⟩
end
end K
namespace K
open PySem L2 Rp
/-! ### sizes -/
/-- below 2 ^ m in size -/
def Sz (m : Nat) (x : Int) : Prop := x.natAbs < 2 ^ m
theorem Sz.mono {a b : Nat} {x : Int} (h : Sz a x) (hab : a ≤ b) : Sz b x := Nat.lt_of_lt_of_le h (Nat.pow_le_pow_right (by decide) hab)
theorem Sz.mul {a b : Nat} {x y : Int} (hx : Sz a x) (hy : Sz b y) : Sz (a + b) (x * y) := wide_lt hx hy
theorem Sz.add {a : Nat} {x y : Int} (hx : Sz a x) (hy : Sz a y) : Sz (a + 1) (x + y) := by
  have h := Int.natAbs_add_le x y
  unfold Sz at *
  rw [Nat.pow_succ]
  omega
theorem Sz.sub {a : Nat} {x y : Int} (hx : Sz a x) (hy : Sz a y) : Sz (a + 1) (x - y) := by
  have h := Int.natAbs_sub_le x y
  unfold Sz at *
  rw [Nat.pow_succ]
  omega
theorem Sz.div {a : Nat} {x : Int} (hx : Sz a x) (y : Int) : Sz a (x / y) := Nat.lt_of_le_of_lt (Int.natAbs_ediv_le_natAbs x y) hx
theorem Sz.log {a : Nat} {x : Int} (hx : Sz a x) (h0 : 0 < a) : x.natAbs.log2 < a := PySem.Flt.log2_lt_of h0 hx
theorem Sz.mulOk {a b : Nat} {x y : Int} (hx : Sz a x) (hy : Sz b y) (h0 : 0 < a) (h1 : 0 < b) (h : a + b ≤ 1000000) : CMulW x y := wide_mul hx hy h0 h1 h
theorem gcd_pos {t b : Int} (hb : 0 < b) : 0 < ((Int.gcd t b : Nat) : Int) := by
  have : Int.gcd t b ≠ 0 := fun z => by
    have := Int.gcd_eq_zero_iff.mp z
    omega
  omega
theorem gcd_le {t b : Int} (hb : 0 < b) : ((Int.gcd t b : Nat) : Int) ≤ b := by
  have h := Int.gcd_dvd_right t b
  exact Int.le_of_dvd hb h
theorem Sz.gcd {a : Nat} {t b : Int} (h : Sz a b) (hb : 0 < b) : Sz a ((Int.gcd t b : Nat) : Int) := by
  have h1 := gcd_le (t := t) hb
  have h2 := gcd_pos (t := t) hb
  unfold Sz at *
  omega

/-! ### Weights -/
theorem tb_ : ¬ (("top" : Str) = "bottom") := by decide +kernel
theorem bt_ : ¬ (("bottom" : Str) = "top") := by decide +kernel
/-- a Weight's fields, as __init__ stores them -/
def wf (t b : Int) : List (Str × V) := putF "bottom" (.int b) (putF "top" (.int t) [])
theorem wf_top (t b : Int) : (wf t b).lookup ("top" : Str) = some (.int t) := by
  unfold wf
  rw [lookup_putF, if_neg tb_, lookup_putF, if_pos rfl]
theorem wf_bottom (t b : Int) : (wf t b).lookup ("bottom" : Str) = some (.int b) := by
  unfold wf
  rw [lookup_putF, if_pos rfl]
theorem wf_no (t b : Int) {m : Str} (h1 : ¬ m = "top") (h2 : ¬ m = "bottom") : (wf t b).lookup m = none := by
  unfold wf
  rw [lookup_putF, if_neg h2, lookup_putF, if_neg h1]
  all_goals rfl
/-- a Weight t / b stands at p -/
def WAt (C : Addr) (H : Hp) (p : Addr) (t b : Int) : Prop := ∃ dx, H p = some (.ins C dx (wf t b))
theorem WAt.same {C : Addr} {H H' : Hp} {p : Addr} {t b : Int} (h : WAt C H p t b) (e : Same H H') : WAt C H' p t b := let ⟨dx, h⟩ := h; ⟨dx, e _ _ h⟩
theorem same_make {H : Hp} {x dx C : Addr} {fs : List (Str × V)} (nx : H x = none) (ndx : H dx = none) : Same H (upd (upd (upd H dx (.own x)) x (.ins C dx [])) x (.ins C dx fs)) := fun b o e => by
  rw [upd_ne (ne_of_none e nx), upd_ne (ne_of_none e nx), upd_ne (ne_of_none e ndx)]
  exact e

/-- what the top holds of the class Weight, at C -/
structure WTxt (K : PySem.W.Frag) (mg : Str → Option Value) (C fW : Addr) : Prop where
  cl : Cls K C
  nT : NoAttr K C "top"
  nB : NoAttr K C "bottom"
  mgC : mg "Weight" = some (.ref C)
  mgW : mg "is_whole" = some (.ref fW)
  kpW : PySem.W.keepIn K (.ref fW) = true
  gcd : mg "gcd" = some (.builtin "math.gcd")

def spInit (C : Addr) : Sp := fun vs H Q _ => ∃ (p dx : Addr) (t b : Int), vs = [.ref p, .int t, .int b] ∧ H p = some (.ins C dx []) ∧ 0 ≤ t ∧ 0 < b ∧ Sz 8000 b ∧
  Q .non (upd H p (.ins C dx (wf (t / (Int.gcd t b : Nat)) (b / (Int.gcd t b : Nat)))))

/-- as FunD.ok, of a def that lets nothing out -/
theorem FunD_ok0 {P : Program} {w : World} {K : PySem.W.Frag} {mg : Str → Option Value} {base : Heap} {x qual : Str} {params : Arguments} {body : List Stmt} {scope : Scope} {dvs : List V} {kws : List (Str × V)} {f : Addr} {fd : FuncData} {N ps : List Str} {k : Nat} {sp : Sp}
    (F : FunD K x qual params body scope dvs kws f fd) (S : FnScope N ps scope) (len : ∀ vs H Q E, sp vs H Q E → vs.length = ps.length)
    (hbody : ∀ (cdv : Value) (A : Around) (outer : List PySem.Env) (s : Shared) (H : Hp) (vs : List V) (Q : VK) (E : XK), Room k (A.deeper (PyProof.Rows.envOfC qual scope s.heap.objs.size f cdv)) → sp vs H Q E →
      ∃ t, PSs (cxOf CX0 P w K mg base N qual scope f cdv A outer s H E).nox body t ∧ t { nx := fun _ H' => Q .non H', rt := Q } (start N vs) H) : FnOk P w K mg base CX0 (k + 1) f fd ps sp :=
  F.ok S len fun cdv A outer s H vs Q E hr h => let ⟨t, h1, h2⟩ := hbody cdv A outer s H vs Q E hr h; ⟨t, h1.nox, h2⟩

section
variable {P : Program} {w : World} {K : PySem.W.Frag} {mg : Str → Option Value} {base : Heap}
theorem scInit : FnScope ["self", "top", "bottom", "shared"] ["self", "top", "bottom"] (defScope sInit) := ⟨rfl, rfl, rfl, by decide +kernel, rfl, by decide +kernel, by decide +kernel⟩
abbrev FunI (K : PySem.W.Frag) (f : Addr) (fd : FuncData) : Prop := FunD K "__init__" "Weight.__init__" (defArgs sInit) (defBody sInit) (defScope sInit) [.int 1] [] f fd
theorem ok_init {f C fW : Addr} {fd fdW : FuncData} (F : FunI K f fd) (T : WTxt K mg C fW) (GW : FnOk P w K mg base CX0 1 fW fdW ["thing"] (spWhole K)) (bW : Binds K fdW ["thing"] []) : FnOk P w K mg base CX0 2 f fd ["self", "top", "bottom"] (spInit C) := by
  refine FunD_ok0 F scInit (fun vs H Q E h => ?_) (fun cdv A outer s H vs Q E hr h => ?_)
  · obtain ⟨p, dx, t, b, rfl, _⟩ := h
    rfl
  · obtain ⟨p, dx, t, b, rfl, hp, ht, hb, hz, k⟩ := h
    refine ⟨_, pss_cons (ps_if (PW.pt (pw_and (pt_val (pe_call GW hr (by rfl) T.mgW T.kpW bW .nil pass0 (pa_cons (pv 2) pa_nil))) (pw_and1 (pt_cmpR op_eq (pv 2) pe_int (nomark _))))) (pss_one ps_never) pss_nil)
      (pss_cons (ps_if (PW.pt (pw_or (pt_not (pt_val (pe_call GW hr (by rfl) T.mgW T.kpW bW .nil pass0 (pa_cons (pv 1) pa_nil)))) (pw_or (pt_not (pt_val (pe_call GW hr (by rfl) T.mgW T.kpW bW .nil pass0 (pa_cons (pv 2) pa_nil))))
          (pw_or (pt_cmpR op_lt (pv 1) pe_int (nomark _)) (pw_or1 (pt_cmpR op_lt (pv 2) pe_int (nomark _))))))) (pss_one ps_never) pss_nil)
      (pss_cons (ps_set (i := 3) scInit.nd rfl (Or.inl rfl) (pe_callBfun cr_gcd (by rfl) T.gcd (pa_cons (pv 1) (pa_cons (pv 2) pa_nil))))
      (pss_cons (ps_fld (pv 0) (pe_op op_fdivW (pv 1) (pv 3)) rfl)
      (pss_one (ps_fld (pv 0) (pe_op op_fdivW (pv 2) (pv 3)) rfl))))), ?_⟩
    have hg := gcd_pos (t := t) hb
    have hgz : CDivW t ((Int.gcd t b : Nat) : Int) := ⟨hg, Nat.lt_trans ((Sz.gcd (t := t) hz hb).log (by decide)) (by decide)⟩
    have hgz' : CDivW b ((Int.gcd t b : Nat) : Int) := hgz
    refine ⟨_, rfl, b, rfl, true, rfl, iteT ⟨_, rfl, rfl, _, rfl, ?_⟩⟩
    rw [decide_eq_false (show ¬ (V.int b = V.int 0) from fun z => by cases z; omega)]
    refine iteF ?_
    refine ⟨_, rfl, t, rfl, true, rfl, iteF ⟨_, rfl, b, rfl, true, rfl, iteF ⟨_, rfl, _, _, rfl, rfl, _, rfl, ?_⟩⟩⟩
    rw [decide_eq_false (show ¬ t < 0 by omega)]
    refine iteF ⟨_, rfl, _, _, rfl, rfl, _, rfl, ?_⟩
    rw [decide_eq_false (show ¬ b < 0 by omega)]
    refine iteF ?_
    refine ⟨_, rfl, _, rfl, t, b, rfl, ?_⟩
    refine ⟨_, rfl, _, rfl, _, _, rfl, rfl, hgz, _, rfl, p, C, dx, _, rfl, hp, T.cl, T.nT, (by show 0 < 1000; decide), ?_⟩
    refine ⟨_, rfl, _, rfl, _, _, rfl, rfl, hgz', _, rfl, p, C, dx, _, rfl, upd_same, T.cl, T.nB, (by show 1 < 1000; decide), ?_⟩
    show Q .non (upd (upd H p _) p _)
    rw [upd_upd]
    exact k
end
end K
namespace K
open PySem L2 Rp
/-- a Weight's numbers, below 2 ^ m -/
structure Wn (m : Nat) (t b : Int) : Prop where
  t0 : 0 ≤ t
  b0 : 0 < b
  tz : Sz m t
  bz : Sz m b
theorem Wn.mono {m n : Nat} {t b : Int} (h : Wn m t b) (hm : m ≤ n) : Wn n t b := ⟨h.t0, h.b0, h.tz.mono hm, h.bz.mono hm⟩
/-- lowest terms -/
def lowT (t b : Int) : Int := t / ((Int.gcd t b : Nat) : Int)
def lowB (t b : Int) : Int := b / ((Int.gcd t b : Nat) : Int)
theorem Wn.low {m : Nat} {t b : Int} (h : Wn m t b) : Wn m (lowT t b) (lowB t b) := by
  have hg := gcd_pos (t := t) h.b0
  have hd := Int.gcd_dvd_right t b
  refine ⟨Int.ediv_nonneg h.t0 (Int.le_of_lt hg), ?_, h.tz.div _, h.bz.div _⟩
  exact Int.ediv_pos_of_pos_of_dvd h.b0 (Int.le_of_lt hg) hd

def spBelow (C : Addr) : Sp := fun vs H Q _ => ∃ (p q : Addr) (t b u d : Int), vs = [.ref p, .ref q] ∧ WAt C H p t b ∧ WAt C H q u d ∧ Wn 4000 t b ∧ Wn 4000 u d ∧ Q (.bl (decide (t * d < u * b))) H
def spNought (C : Addr) : Sp := fun vs H Q _ => ∃ (p : Addr) (t b : Int), vs = [.ref p] ∧ WAt C H p t b ∧ Q (.bl (decide (V.int t = V.int 0))) H
def spUp (C : Addr) : Sp := fun vs H Q _ => ∃ (p : Addr) (t b : Int), vs = [.ref p] ∧ WAt C H p t b ∧ Wn 4000 t b ∧ Q (.int ((t + b - 1) / b)) H
def spPlus (C : Addr) : Sp := fun vs H Q _ => ∃ (p q : Addr) (t b u d : Int), vs = [.ref p, .ref q] ∧ WAt C H p t b ∧ WAt C H q u d ∧ Wn 3000 t b ∧ Wn 3000 u d ∧
  ∀ (x : Addr) (H' : Hp), Same H H' → H x = none → WAt C H' x (lowT (t * d + u * b) (b * d)) (lowB (t * d + u * b) (b * d)) → Q (.ref x) H'

section
variable {P : Program} {w : World} {K : PySem.W.Frag} {mg : Str → Option Value} {base : Heap}
theorem scBelow : FnScope ["self", "other"] ["self", "other"] (defScope sBelow) := ⟨rfl, rfl, rfl, by decide +kernel, rfl, by decide +kernel, by decide +kernel⟩
theorem ok_below {f C fW : Addr} {fd : FuncData} (F : Fun K "is_below" "Weight.is_below" sBelow f fd) (T : WTxt K mg C fW) : FnOk P w K mg base CX0 1 f fd ["self", "other"] (spBelow C) := by
  refine F.ok scBelow (fun vs H Q E h => ?_) (fun cdv A outer s H vs Q E hr h => ?_)
  · obtain ⟨p, q, t, b, u, d, rfl, _⟩ := h
    rfl
  · obtain ⟨p, q, t, b, u, d, rfl, ⟨dx, hp⟩, ⟨dy, hq⟩, n1, n2, k⟩ := h
    refine ⟨_, pss_one (ps_ret (pe_cmpR op_lt (pe_op op_mulW (pe_fld (pv 0) rfl) (pe_fld (pv 1) rfl)) (pe_op op_mulW (pe_fld (pv 1) rfl) (pe_fld (pv 0) rfl)) (nomark _))), ?_⟩
    refine ⟨_, rfl, p, C, dx, _, _, rfl, hp, T.cl, T.nT, wf_top _ _, _, rfl, q, C, dy, _, _, rfl, hq, T.cl, T.nB, wf_bottom _ _, _, _, rfl, rfl, n1.tz.mulOk n2.bz (by decide) (by decide) (by decide), ?_⟩
    refine ⟨_, rfl, q, C, dy, _, _, rfl, hq, T.cl, T.nT, wf_top _ _, _, rfl, p, C, dx, _, _, rfl, hp, T.cl, T.nB, wf_bottom _ _, _, _, rfl, rfl, n2.tz.mulOk n1.bz (by decide) (by decide) (by decide), ?_⟩
    exact ⟨_, _, rfl, rfl, k⟩
theorem scNought : FnScope ["self"] ["self"] (defScope sNought) := ⟨rfl, rfl, rfl, by decide +kernel, rfl, by decide +kernel, by decide +kernel⟩
theorem ok_nought {f C fW : Addr} {fd : FuncData} (F : Fun K "is_nought" "Weight.is_nought" sNought f fd) (T : WTxt K mg C fW) : FnOk P w K mg base CX0 1 f fd ["self"] (spNought C) := by
  refine F.ok scNought (fun vs H Q E h => ?_) (fun cdv A outer s H vs Q E hr h => ?_)
  · obtain ⟨p, t, b, rfl, _⟩ := h
    rfl
  · obtain ⟨p, t, b, rfl, ⟨dx, hp⟩, k⟩ := h
    refine ⟨_, pss_one (ps_ret (pe_cmpR op_eq (pe_fld (pv 0) rfl) pe_int (nomark _))), ?_⟩
    exact ⟨_, rfl, p, C, dx, _, _, rfl, hp, T.cl, T.nT, wf_top _ _, rfl, k⟩
theorem scUp : FnScope ["self"] ["self"] (defScope sUp) := ⟨rfl, rfl, rfl, by decide +kernel, rfl, by decide +kernel, by decide +kernel⟩
theorem ok_up {f C fW : Addr} {fd : FuncData} (F : Fun K "whole_up" "Weight.whole_up" sUp f fd) (T : WTxt K mg C fW) : FnOk P w K mg base CX0 1 f fd ["self"] (spUp C) := by
  refine F.ok scUp (fun vs H Q E h => ?_) (fun cdv A outer s H vs Q E hr h => ?_)
  · obtain ⟨p, t, b, rfl, _⟩ := h
    rfl
  · obtain ⟨p, t, b, rfl, ⟨dx, hp⟩, n1, k⟩ := h
    refine ⟨_, pss_one (ps_ret (pe_op op_fdivW (pe_op op_sub (pe_op op_add (pe_fld (pv 0) rfl) (pe_fld (pv 0) rfl)) pe_int) (pe_fld (pv 0) rfl))), ?_⟩
    refine ⟨_, rfl, p, C, dx, _, _, rfl, hp, T.cl, T.nT, wf_top _ _, _, rfl, p, C, dx, _, _, rfl, hp, T.cl, T.nB, wf_bottom _ _, _, _, rfl, rfl, _, _, rfl, rfl, ?_⟩
    exact ⟨_, rfl, p, C, dx, _, _, rfl, hp, T.cl, T.nB, wf_bottom _ _, _, _, rfl, rfl, ⟨n1.b0, Nat.lt_trans (n1.bz.log (by decide)) (by decide)⟩, k⟩
theorem scPlus : FnScope ["self", "other", "top"] ["self", "other"] (defScope sPlus) := ⟨rfl, rfl, rfl, by decide +kernel, rfl, by decide +kernel, by decide +kernel⟩
theorem ok_plus {f C fW fI : Addr} {fd fdI : FuncData} (F : Fun K "plus" "Weight.plus" sPlus f fd) (T : WTxt K mg C fW) (M : Mk K C fI) (GI : FnOk P w K mg base CX0 2 fI fdI ["self", "top", "bottom"] (spInit C)) (bI : Binds K fdI ["self", "top", "bottom"] []) :
    FnOk P w K mg base CX0 4 f fd ["self", "other"] (spPlus C) := by
  refine F.ok scPlus (fun vs H Q E h => ?_) (fun cdv A outer s H vs Q E hr h => ?_)
  · obtain ⟨p, q, t, b, u, d, rfl, _⟩ := h
    rfl
  · obtain ⟨p, q, t, b, u, d, rfl, ⟨dx, hp⟩, ⟨dy, hq⟩, n1, n2, k⟩ := h
    refine ⟨_, pss_cons (ps_set (i := 2) scPlus.nd rfl (Or.inl rfl) (pe_op op_add (pe_op op_mulW (pe_fld (pv 0) rfl) (pe_fld (pv 1) rfl)) (pe_op op_mulW (pe_fld (pv 1) rfl) (pe_fld (pv 0) rfl))))
      (pss_one (ps_ret (pe_make M GI hr (by rfl) T.mgC bI .nil pass0 (pa_cons (pv 2) (pa_cons (pe_op op_mulW (pe_fld (pv 0) rfl) (pe_fld (pv 1) rfl)) pa_nil))))), ?_⟩
    refine ⟨_, rfl, p, C, dx, _, _, rfl, hp, T.cl, T.nT, wf_top _ _, _, rfl, q, C, dy, _, _, rfl, hq, T.cl, T.nB, wf_bottom _ _, _, _, rfl, rfl, n1.tz.mulOk n2.bz (by decide) (by decide) (by decide), ?_⟩
    refine ⟨_, rfl, q, C, dy, _, _, rfl, hq, T.cl, T.nT, wf_top _ _, _, rfl, p, C, dx, _, _, rfl, hp, T.cl, T.nB, wf_bottom _ _, _, _, rfl, rfl, n2.tz.mulOk n1.bz (by decide) (by decide) (by decide), _, _, rfl, rfl, ?_⟩
    refine ⟨_, rfl, _, rfl, p, C, dx, _, _, rfl, hp, T.cl, T.nB, wf_bottom _ _, _, rfl, q, C, dy, _, _, rfl, hq, T.cl, T.nB, wf_bottom _ _, _, _, rfl, rfl, n1.bz.mulOk n2.bz (by decide) (by decide) (by decide), ?_⟩
    intro x dz nx ndz ne
    refine ⟨x, dz, _, _, rfl, upd_same, ?_, Int.mul_pos n1.b0 n2.b0, (n1.bz.mul n2.bz).mono (by decide), rfl, ?_⟩
    · exact Int.add_nonneg (Int.mul_nonneg n1.t0 (Int.le_of_lt n2.b0)) (Int.mul_nonneg n2.t0 (Int.le_of_lt n1.b0))
    · exact k x _ (same_make nx ndz) nx ⟨dz, upd_same⟩
end
end K
namespace K
open PySem L2 Rp
/-- a def of the module, as its callers want it -/
structure Cl (K : PySem.W.Frag) (mg : Str → Option Value) (x : Str) (f : Addr) (fd : FuncData) (ps : List Str) : Prop where
  g : mg x = some (.ref f)
  k : PySem.W.keepIn K (.ref f) = true
  b : Binds K fd ps []
/-- what isinstance asks of an own class's instance -/
structure WIns (K : PySem.W.Frag) (C : Addr) : Prop where
  ha : PySem.W.findIn K (.ref C) "__class__" = some (some (.builtin "object.__class__"))
  hn : PySem.W.specialIn K (.builtin "object.__class__") "__get__" = some (some (.builtin "getset_descriptor.__get__"))
  htk : PySem.W.takesIn K (.builtin "object.__class__") = some true
  hm : PySem.W.mroIn K C (.type "object") = some true
theorem kit_self {K : PySem.W.Frag} {C : Addr} : PySem.W.kitOne K (.ref C) (.ref C) = some true := by
  unfold PySem.W.kitOne
  rw [if_pos (by simp)]

def spLow : Sp := fun vs H Q _ => ∃ t b : Int, vs = [.int t, .int b] ∧ 0 ≤ t ∧ 0 < b ∧ Sz 8000 b ∧ ∀ p, H p = none → Q (.ref p) (upd H p (.tup [.int (lowT t b), .int (lowB t b)]))
/-- _law_is of a Weight that is what it should be -/
def spIs (C : Addr) : Sp := fun vs H Q _ => ∃ (p : Addr) (t b : Int), vs = [.ref p, .int t, .int b] ∧ 0 ≤ t ∧ 0 < b ∧ Sz 8000 b ∧ WAt C H p (lowT t b) (lowB t b) ∧ ∀ H', Same H H' → Q (.bl true) H'

section
variable {P : Program} {w : World} {K : PySem.W.Frag} {mg : Str → Option Value} {base : Heap}
theorem scLow : FnScope ["_law_top", "_law_bottom", "_law_by"] ["_law_top", "_law_bottom"] (defScope sLow) := ⟨rfl, rfl, rfl, by decide +kernel, rfl, by decide +kernel, by decide +kernel⟩
theorem ok_low {f fD : Addr} {fd fdD : FuncData} (F : Fun K "_law_lowest" "_law_lowest" sLow f fd) (cD : Cl K mg "_law_divides" fD fdD ["_law_one", "_law_other"]) (GD : FnOk P w K mg base CX0 1 fD fdD ["_law_one", "_law_other"] spDiv) :
    FnOk P w K mg base CX0 2 f fd ["_law_top", "_law_bottom"] spLow := by
  refine F.ok scLow (fun vs H Q E h => ?_) (fun cdv A outer s H vs Q E hr h => ?_)
  · obtain ⟨t, b, rfl, _⟩ := h
    rfl
  · obtain ⟨t, b, rfl, ht, hb, hz, k⟩ := h
    refine ⟨_, pss_cons (ps_set (i := 2) scLow.nd rfl (Or.inl rfl) (pe_call GD hr (by rfl) cD.g cD.k cD.b .nil pass0 (pa_cons (pv 0) (pa_cons (pv 1) pa_nil))))
      (pss_one (ps_ret (pe_tup (pa_cons (pe_op op_fdivW (pv 0) (pv 2)) (pa_cons (pe_op op_fdivW (pv 1) (pv 2)) pa_nil))))), ?_⟩
    have hg := gcd_pos (t := t) hb
    have hgz : ∀ i, CDivW i ((Int.gcd t b : Nat) : Int) := fun i => ⟨hg, Nat.lt_trans ((Sz.gcd (t := t) hz hb).log (by decide)) (by decide)⟩
    refine ⟨_, rfl, _, rfl, t, b, rfl, ht, Int.le_of_lt hb, ?_⟩
    refine ⟨_, rfl, _, rfl, _, _, rfl, rfl, hgz _, _, rfl, _, rfl, _, _, rfl, rfl, hgz _, (by show 2 ≤ sizeLine; decide), fun p hp => ?_⟩
    exact k p hp
theorem scIs : FnScope ["_law_found", "_law_top", "_law_bottom"] ["_law_found", "_law_top", "_law_bottom"] (defScope sIs) := ⟨rfl, rfl, rfl, by decide +kernel, rfl, by decide +kernel, by decide +kernel⟩
theorem ok_is {f C fW fL fN : Addr} {fd fdL fdN : FuncData} (F : Fun K "_law_is" "_law_is" sIs f fd) (T : WTxt K mg C fW) (B : Blt mg) (N : WIns K C)
    (cW : Cl K mg "_law_whole" fN fdN ["_law_thing"]) (GW : FnOk P w K mg base CX0 1 fN fdN ["_law_thing"] (spWhole K)) (cL : Cl K mg "_law_lowest" fL fdL ["_law_top", "_law_bottom"]) (GL : FnOk P w K mg base CX0 2 fL fdL ["_law_top", "_law_bottom"] spLow) :
    FnOk P w K mg base CX0 3 f fd ["_law_found", "_law_top", "_law_bottom"] (spIs C) := by
  refine F.ok scIs (fun vs H Q E h => ?_) (fun cdv A outer s H vs Q E hr h => ?_)
  · obtain ⟨p, t, b, rfl, _⟩ := h
    rfl
  · obtain ⟨p, t, b, rfl, ht, hb, hz, ⟨dx, hp⟩, k⟩ := h
    have hr1 : Room 1 _ := hr.mono (by decide)
    refine ⟨_, pss_cons (ps_if (PW.pt (pw_or (pt_not (pt_val (pe_callB call_isi (by rfl) B.isi (by decide +kernel) (pa_cons (pv 0) (pa_cons (pe_glob (v := .ref C) rfl T.mgC rfl) pa_nil)))))
          (pw_or (pt_not (pt_val (pe_call GW hr1 (by rfl) cW.g cW.k cW.b .nil pass0 (pa_cons (pe_fld (pv 0) rfl) pa_nil))))
          (pw_or1 (pt_not (pt_val (pe_call GW hr1 (by rfl) cW.g cW.k cW.b .nil pass0 (pa_cons (pe_fld (pv 0) rfl) pa_nil)))))))) (pss_one (ps_ret pe_bl)) pss_nil)
      (pss_one (ps_ret (pe_cmpR (op_eqD hr.units) (pe_tup (pa_cons (pe_fld (pv 0) rfl) (pa_cons (pe_fld (pv 0) rfl) pa_nil))) (pe_call GL hr (by rfl) cL.g cL.k cL.b .nil pass0 (pa_cons (pv 1) (pa_cons (pv 2) pa_nil))) (nomark _)))), ?_⟩
    refine ⟨_, rfl, _, .ref C, _, _, true, rfl, .own _, .base (.ins hp T.cl N.ha N.hn N.htk N.hm), kit_self, true, rfl, iteF ?_⟩
    refine ⟨_, rfl, p, C, dx, _, _, rfl, hp, T.cl, T.nT, wf_top _ _, _, rfl, true, rfl, iteF ?_⟩
    refine ⟨_, rfl, p, C, dx, _, _, rfl, hp, T.cl, T.nB, wf_bottom _ _, _, rfl, true, rfl, iteF ?_⟩
    refine ⟨_, rfl, p, C, dx, _, _, rfl, hp, T.cl, T.nT, wf_top _ _, _, rfl, p, C, dx, _, _, rfl, hp, T.cl, T.nB, wf_bottom _ _, (by show 2 ≤ sizeLine; decide), fun a ha => ?_⟩
    refine ⟨_, rfl, _, rfl, t, b, rfl, ht, hb, hz, fun c hc => ?_⟩
    have nac : a ≠ c := fun z => by
      rw [z] at hc
      rw [upd_same] at hc
      cases hc
    have e1 : Same H (upd (upd H a (.tup [V.int (lowT t b), V.int (lowB t b)])) c (.tup [V.int (lowT t b), V.int (lowB t b)])) := fun q o e => by
      rw [upd_ne (ne_of_none (by rw [upd_ne (ne_of_none e ha)]; exact e) hc), upd_ne (ne_of_none e ha)]
      exact e
    refine ⟨.tuple [.int (lowT t b), .int (lowB t b)], .tuple [.int (lowT t b), .int (lowB t b)], .tup (SqT.of (by rw [upd_ne nac]; exact upd_same)) (.cons (.int _) (.cons (.int _) .nil)), .tup (SqT.of upd_same) (.cons (.int _) (.cons (.int _) .nil)), rfl, rfl, ?_⟩
    rw [SeqAt.eqv_refl]
    · exact k _ e1
    · rfl
end
end K
namespace K
open PySem L2 Rp
/-- all but d is kept, what is free was free -/
structure Fw (d : Addr) (H H' : Hp) : Prop where
  kp : ∀ q o, q ≠ d → H q = some o → H' q = some o
  nn : ∀ p, H' p = none → H p = none
theorem Fw.refl (d : Addr) (H : Hp) : Fw d H H := ⟨fun _ _ _ h => h, fun _ h => h⟩
theorem Fw.trans {d : Addr} {H H1 H2 : Hp} (a : Fw d H H1) (b : Fw d H1 H2) : Fw d H H2 := ⟨fun q o n h => b.kp q o n (a.kp q o n h), fun p h => a.nn p (b.nn p h)⟩
theorem Fw.draw {d : Addr} {H H' : Hp} (h : DeckAt H' d) (e : ∀ b, b ≠ d → H' b = H b) : Fw d H H' := ⟨fun q o n h => (e q n).trans h, fun p hp => by
  by_cases z : p = d
  · obtain ⟨_, _, _, h⟩ := h
    rw [z, h] at hp
    cases hp
  · rw [← e p z]; exact hp⟩
theorem Fw.upd {d p : Addr} {H : Hp} {o : HO} (hp : H p = none) : Fw d H (upd H p o) := ⟨fun q u n h => by rw [upd_ne (ne_of_none h hp)]; exact h, fun q h => by
  by_cases z : q = p
  · rw [z, upd_same] at h; cases h
  · rw [upd_ne z] at h; exact h⟩
theorem Fw.same {d : Addr} {H H' : Hp} (e : Same H H') : (∀ p, H' p = none → H p = none) := fun p h => by
  cases q : H p with
  | none => rfl
  | some o => rw [e p o q] at h; cases h
theorem Fw.of_same {d : Addr} {H H' : Hp} (e : Same H H') : Fw d H H' := ⟨fun q o _ h => e q o h, Fw.same (d := d) e⟩
theorem DeckAt.upd {d p : Addr} {H : Hp} {o : HO} (h : DeckAt H d) (hp : H p = none) : DeckAt (upd H p o) d := by
  obtain ⟨a, b, c, h⟩ := h
  exact ⟨a, b, c, by rw [upd_ne (ne_of_none h hp)]; exact h⟩
theorem DeckAt.same {d : Addr} {H H' : Hp} (h : DeckAt H d) (e : Same H H') : DeckAt H' d := let ⟨a, b, c, h⟩ := h; ⟨a, b, c, e _ _ h⟩
theorem DeckAt.ne {d p : Addr} {H : Hp} (h : DeckAt H d) (hp : H p = none) : p ≠ d := fun z => by
  obtain ⟨_, _, _, h⟩ := h
  rw [z, h] at hp
  cases hp

theorem tYes_of {σ : L2.St} {H : Hp} {Q : Bool → Hp → Prop} (h : Q true H) : tYes σ H Q := h

def spTwo : Sp := fun vs H Q _ => ∃ d : Addr, vs = [.ref d] ∧ DeckAt H d ∧ ∀ (p : Addr) (t b : Int) (H' : Hp), 0 ≤ t → t ≤ 1000000000000 → 0 < b → b ≤ 1000000000000 → H p = none → H' p = some (.tup [.int t, .int b]) → DeckAt H' d → Fw d H H' → Q (.ref p) H'

section
variable {P : Program} {w : World} {K : PySem.W.Frag} {mg : Str → Option Value} {base : Heap}
theorem scTwo : FnScope ["_law_deck_here", "_law_way", "_law_top", "_law_bottom", "_law_k"] ["_law_deck_here"] (defScope sTwo) := ⟨rfl, rfl, rfl, by decide +kernel, rfl, by decide +kernel, by decide +kernel⟩
theorem ok_two {f fD : Addr} {fd fdD : FuncData} (F : Fun K "_law_two" "_law_two" sTwo f fd) (hmx : mg "max" = none) (hrg : mg "range" = none) (cD : Cl K mg "_law_draw" fD fdD ["_law_deck_here", "_law_most"])
    (GD : FnOk P w K mg base CX0 1 fD fdD ["_law_deck_here", "_law_most"] spDraw) : FnOk P w K mg base CX0 2 f fd ["_law_deck_here"] spTwo := by
  refine F.ok scTwo (fun vs H Q E h => ?_) (fun cdv A outer s H vs Q E hr h => ?_)
  · obtain ⟨d, rfl, _⟩ := h
    rfl
  · obtain ⟨d, rfl, hd, k⟩ := h
    refine ⟨_, pss_cons (ps_set (i := 1) scTwo.nd rfl (Or.inl rfl) (pe_call GD hr (by rfl) cD.g cD.k cD.b .nil pass0 (pa_cons (pv 0) (pa_cons pe_int pa_nil))))
      (pss_cons (ps_if (pt_cmpR op_eq (pv 1) pe_int (nomark _))
        (pss_cons (ps_asg (pe_lc (own := [("_law_k", 4)]) (g := gName 4) (tt := tYes) (by rfl) scTwo.nd (pi_range1 (by rfl) hrg (pa_cons pe_int pa_nil)) (blkOk_by (own := [("_law_k", 4)]) (N := ["_law_deck_here", "_law_way", "_law_top", "_law_bottom", "_law_k"]) (sc := defScope sTwo) (by decide +kernel))
            (fun _ _ _ _ _ => pg_name (i := 4) scTwo.nd rfl (Or.inl rfl)) (fun _ _ _ _ _ => pts_nil)
            (fun _ _ _ _ _ => pe_op op_add (pe_op op_mul (pe_call GD hr (by rfl) cD.g cD.k cD.b .nil pass0 (pa_cons (pv 0) (pa_cons (pe_op op_pow pe_int pe_int) pa_nil))) (pe_op op_pow pe_int pe_int)) (pe_call GD hr (by rfl) cD.g cD.k cD.b .nil pass0 (pa_cons (pv 0) (pa_cons (pe_op op_pow pe_int pe_int) pa_nil)))))
          (pg_unl rfl (pgs_cons (pg_name (i := 2) scTwo.nd rfl (Or.inl rfl)) (pgs_cons (pg_name (i := 3) scTwo.nd rfl (Or.inl rfl)) pgs_nil))))
        (pss_one (ps_ret (pe_tup (pa_cons (pv 2) (pa_cons (pe_callB (call_max2 rfl) (by rfl) hmx (by decide +kernel) (pa_cons pe_int (pa_cons (pv 3) pa_nil))) pa_nil)))))) pss_nil)
      (pss_cons (ps_if (pt_cmpR op_lt (pv 1) pe_int (nomark _)) (pss_one (ps_ret (pe_tup (pa_cons (pe_call GD hr (by rfl) cD.g cD.k cD.b .nil pass0 (pa_cons (pv 0) (pa_cons pe_int pa_nil))) (pa_cons pe_int pa_nil))))) pss_nil)
      (pss_cons (ps_if (pt_cmpR op_lt (pv 1) pe_int (nomark _)) (pss_one (ps_ret (pe_tup (pa_cons (pe_call GD hr (by rfl) cD.g cD.k cD.b .nil pass0 (pa_cons (pv 0) (pa_cons pe_int pa_nil))) (pa_cons (pe_op op_add pe_int (pe_call GD hr (by rfl) cD.g cD.k cD.b .nil pass0 (pa_cons (pv 0) (pa_cons pe_int pa_nil)))) pa_nil))))) pss_nil)
      (pss_cons (ps_if (pt_cmpR op_eq (pv 1) pe_int (nomark _)) (pss_one (ps_ret (pe_ix ix_list (pe_lst (pa_cons (pe_tup (pa_cons pe_int (pa_cons pe_int pa_nil))) (pa_cons (pe_tup (pa_cons pe_int (pa_cons pe_int pa_nil))) (pa_cons (pe_tup (pa_cons pe_int (pa_cons pe_int pa_nil))) (pa_cons (pe_tup (pa_cons pe_int (pa_cons pe_int pa_nil))) pa_nil)))))
          (pe_call GD hr (by rfl) cD.g cD.k cD.b .nil pass0 (pa_cons (pv 0) (pa_cons pe_int pa_nil))) (fun _ _ => rfl)))) pss_nil)
      (pss_one (ps_ret (pe_tup (pa_cons (pe_call GD hr (by rfl) cD.g cD.k cD.b .nil pass0 (pa_cons (pv 0) (pa_cons (pe_op op_add (pe_op op_pow pe_int pe_int) pe_int) pa_nil))) (pa_cons (pe_op op_add pe_int (pe_call GD hr (by rfl) cD.g cD.k cD.b .nil pass0 (pa_cons (pv 0) (pa_cons (pe_op op_pow pe_int pe_int) pa_nil)))) pa_nil))))))))), ?_⟩
    have p6 : CPow (10 : Int) (6 : Int) := (by show (0:Int) ≤ 6 ∧ (6:Int) ≤ 1000000 ∧ (10:Int).natAbs < 2 ^ 64; decide)
    have m6 : (10 : Int) ^ (6 : Int).toNat = 1000000 := by decide
    have m7 : (10 : Int) ^ (6 : Int).toNat + 1 = 1000001 := by decide
    have pair : ∀ (H3 : Hp) (t b : Int), 0 ≤ t → t ≤ 1000000000000 → 0 < b → b ≤ 1000000000000 → DeckAt H3 d → Fw d H H3 → ∀ p, H3 p = none → Q (.ref p) (upd H3 p (.tup [.int t, .int b])) := fun H3 t b t0 t1 b0 b1 d3 f3 p hp =>
      k p t b _ t0 t1 b0 b1 (f3.nn p hp) upd_same (d3.upd hp) (f3.trans (Fw.upd hp))
    refine ⟨_, rfl, d, 9, rfl, by decide, by decide, hd, fun r r0 r1 H1 d1 e1 => ?_⟩
    have f1 := Fw.draw d1 e1
    refine ⟨_, rfl, rfl, _, rfl, ?_⟩
    refine ite2 (fun _ => ?_) (fun _ => ?_)
    · refine ⟨2, rfl, by decide, by decide, fun D hD => ?_⟩
      refine lc_range (lo := 0) (n := 2) (fun i H2 => ∃ acc : List V, H2 D = some (.lst acc) ∧ acc.length = i ∧ (∀ v ∈ acc, ∃ n : Int, v = .int n ∧ 0 ≤ n ∧ n ≤ 1000000000000) ∧ DeckAt H2 d ∧ Fw d H H2) ?_ ?_ ?_
      · exact ⟨[], upd_same, rfl, fun v hv => absurd hv (by simp), d1.upd hD, f1.trans (Fw.upd hD)⟩
      · rintro i H2 hi ⟨acc, hA, hl, hall, d2, f2⟩
        have nD : D ≠ d := d1.ne hD
        refine ⟨rfl, tYes_of ?_⟩
        rw [if_pos rfl]
        refine ⟨_, rfl, _, _, rfl, rfl, p6, d, _, rfl, by rw [m6]; decide, by rw [m6]; decide, d2, fun q q0 q1 H3 d3 e3 => ?_⟩
        refine ⟨_, _, rfl, rfl, p6, _, _, rfl, rfl, .inr (by rw [m6]; decide), ?_⟩
        refine ⟨_, rfl, _, _, rfl, rfl, p6, d, _, rfl, by rw [m6]; decide, by rw [m6]; decide, d3, fun u u0 u1 H4 d4 e4 => ?_⟩
        rw [m6] at q1 u1
        refine ⟨_, _, rfl, rfl, acc, by rw [e4 D nD, e3 D nD]; exact hA, small1000 (by omega), ?_⟩
        have f4 : Fw d H H4 := (f2.trans (Fw.draw d3 e3)).trans (Fw.draw d4 e4)
        have hD0 : H D = none := f1.nn D hD
        refine ⟨acc ++ [_], upd_same, by rw [List.length_append, hl]; rfl, fun v hv => ?_, ?_, ?_⟩
        · rcases List.mem_append.mp hv with z | z
          · exact hall v z
          · have z' := List.mem_singleton.mp z
            refine ⟨_, z', ?_, ?_⟩
            · rw [m6]; omega
            · rw [m6]; omega
        · obtain ⟨a, b, c, h⟩ := d4
          exact ⟨a, b, c, by rw [upd_ne (Ne.symm nD)]; exact h⟩
        · refine ⟨fun q o n h => ?_, fun q h => ?_⟩
          · rw [upd_ne (ne_of_none h hD0)]
            exact f4.kp q o n h
          · by_cases z : q = D
            · rw [z, upd_same] at h; cases h
            · rw [upd_ne z] at h
              exact f4.nn q h
      · rintro H2 ⟨acc, hA, hl, hall, d2, f2⟩
        obtain ⟨v1, v2, rfl⟩ : ∃ v1 v2, acc = [v1, v2] := by
          match acc, hl with
          | [v1, v2], _ => exact ⟨v1, v2, rfl⟩
        obtain ⟨t, rfl, t0, t1⟩ := hall v1 (by simp)
        obtain ⟨b, rfl, b0, b1⟩ := hall v2 (by simp)
        refine ⟨D, _, rfl, SqL.of hA, rfl, _, _, rfl, _, _, rfl, rfl, ?_⟩
        refine ⟨_, rfl, _, rfl, 1, b, rfl, (by show 2 ≤ sizeLine; decide), fun p hp => ?_⟩
        refine pair H2 t _ t0 t1 ?_ ?_ d2 f2 p hp
        · split <;> omega
        · split <;> omega
    · refine ⟨_, rfl, _, _, rfl, rfl, _, rfl, ?_⟩
      refine ite2 (fun _ => ?_) (fun _ => ?_)
      · refine ⟨_, rfl, d, 30, rfl, by decide, by decide, d1, fun q q0 q1 H3 d3 e3 => ⟨(by show 2 ≤ sizeLine; decide), fun p hp => ?_⟩⟩
        exact pair H3 q 1 q0 (by omega) (by decide) (by decide) d3 (f1.trans (Fw.draw d3 e3)) p hp
      · refine ⟨_, rfl, _, _, rfl, rfl, _, rfl, ?_⟩
        refine ite2 (fun _ => ?_) (fun _ => ?_)
        · refine ⟨_, rfl, d, 60, rfl, by decide, by decide, d1, fun q q0 q1 H3 d3 e3 => ?_⟩
          refine ⟨_, rfl, d, 12, rfl, by decide, by decide, d3, fun u u0 u1 H4 d4 e4 => ⟨_, _, rfl, rfl, (by show 2 ≤ sizeLine; decide), fun p hp => ?_⟩⟩
          exact pair H4 q (1 + u) q0 (by omega) (by omega) (by omega) d4 ((f1.trans (Fw.draw d3 e3)).trans (Fw.draw d4 e4)) p hp
        · refine ⟨_, rfl, rfl, _, rfl, ?_⟩
          refine ite2 (fun _ => ?_) (fun _ => ?_)
          · refine ⟨(by show 2 ≤ sizeLine; decide), fun pa ha => ⟨(by show 2 ≤ sizeLine; decide), fun pb hb => ⟨(by show 2 ≤ sizeLine; decide), fun pc hc => ⟨(by show 2 ≤ sizeLine; decide), fun pe he => ⟨(by show 4 ≤ sizeLine; decide), fun l hl => ?_⟩⟩⟩⟩⟩
            have da := d1.upd (o := .tup [.int 0, .int 1]) ha
            have db := da.upd (o := .tup [.int 0, .int 7]) hb
            have dc := db.upd (o := .tup [.int 1, .int 1]) hc
            have de := dc.upd (o := .tup [.int 1, .int 2]) he
            have dl := de.upd (o := .lst [.ref pa, .ref pb, .ref pc, .ref pe]) hl
            have fa : Fw d _ _ := Fw.upd (o := .tup [.int 0, .int 1]) ha
            have fb : Fw d _ _ := Fw.upd (o := .tup [.int 0, .int 7]) hb
            have fc : Fw d _ _ := Fw.upd (o := .tup [.int 1, .int 1]) hc
            have fe : Fw d _ _ := Fw.upd (o := .tup [.int 1, .int 2]) he
            have fl : Fw d _ _ := Fw.upd (o := .lst [.ref pa, .ref pb, .ref pc, .ref pe]) hl
            refine ⟨_, rfl, d, 4, rfl, by decide, by decide, dl, fun q q0 q1 H3 d3 e3 => ?_⟩
            have f3 := Fw.draw d3 e3
            have all := f1.trans ((((((fa.trans fb).trans fc).trans fe).trans fl)).trans f3)
            have h3 : H3 l = some (.lst [.ref pa, .ref pb, .ref pc, .ref pe]) := (e3 l (de.ne hl)).trans upd_same
            have h4 : q = 0 ∨ q = 1 ∨ q = 2 ∨ q = 3 := by omega
            rcases h4 with rfl | rfl | rfl | rfl
            · exact ⟨l, _, _, .ref pa, rfl, rfl, SqL.of h3, rfl, k pa 0 1 H3 (by decide) (by decide) (by decide) (by decide) (f1.nn _ ha) (((((fb.trans fc).trans fe).trans fl).trans f3).kp _ _ (d1.ne ha) upd_same) d3 all⟩
            · exact ⟨l, _, _, .ref pb, rfl, rfl, SqL.of h3, rfl, k pb 0 7 H3 (by decide) (by decide) (by decide) (by decide) ((f1.trans fa).nn _ hb) ((((fc.trans fe).trans fl).trans f3).kp _ _ (da.ne hb) upd_same) d3 all⟩
            · exact ⟨l, _, _, .ref pc, rfl, rfl, SqL.of h3, rfl, k pc 1 1 H3 (by decide) (by decide) (by decide) (by decide) (((f1.trans fa).trans fb).nn _ hc) (((fe.trans fl).trans f3).kp _ _ (db.ne hc) upd_same) d3 all⟩
            · exact ⟨l, _, _, .ref pe, rfl, rfl, SqL.of h3, rfl, k pe 1 2 H3 (by decide) (by decide) (by decide) (by decide) ((((f1.trans fa).trans fb).trans fc).nn _ he) ((fl.trans f3).kp _ _ (dc.ne he) upd_same) d3 all⟩
          · refine ⟨_, rfl, _, _, rfl, rfl, p6, _, _, rfl, rfl, d, _, rfl, by rw [m6]; decide, by rw [m6]; decide, d1, fun q q0 q1 H3 d3 e3 => ?_⟩
            refine ⟨_, rfl, _, _, rfl, rfl, p6, d, _, rfl, by rw [m6]; decide, by rw [m6]; decide, d3, fun u u0 u1 H4 d4 e4 => ⟨_, _, rfl, rfl, (by show 2 ≤ sizeLine; decide), fun p hp => ?_⟩⟩
            rw [m6] at q1 u1
            exact pair H4 q (1 + u) q0 (by omega) (by omega) (by omega) d4 ((f1.trans (Fw.draw d3 e3)).trans (Fw.draw d4 e4)) p hp
end
end K
namespace K
open PySem L2 Rp
/-- a number's text -/
def nT (n : Int) : Str := Str.ofString (toString n)
theorem nT_len {n : Int} (h : Sz 1600 n) : (nT n).length ≤ 1601 := by
  unfold nT
  rw [ofString_length]
  exact int_text_length_le (by decide) (h.log (by decide))
theorem append_len (x y : Str) : (x ++ y).length = x.length + y.length := strLen_append x y
theorem join_one (x : Str) : Txt.join "" [x] = x := rfl
/-- a Weight's text by repr -/
def wT (t b : Int) : Str := if b = 1 then Str.empty ++ "Weight(" ++ nT t ++ ")" else Str.empty ++ "Weight(" ++ nT t ++ ", " ++ nT b ++ ")"
theorem wT_len {t b : Int} (ht : Sz 1600 t) (hb : Sz 1600 b) : (wT t b).length ≤ 4000 := by
  have h1 := nT_len ht
  have h2 := nT_len hb
  have e1 : ("Weight(" : Str).length = 7 := by decide +kernel
  have e2 : (")" : Str).length = 1 := by decide +kernel
  have e3 : (", " : Str).length = 2 := by decide +kernel
  have e4 : (Str.empty : Str).length = 0 := by decide +kernel
  unfold wT
  split <;> simp only [append_len] <;> omega

def spShow : Sp := fun vs H Q _ => ∃ n : Int, vs = [.int n] ∧ 0 ≤ n ∧ Sz 1600 n ∧ ∀ H', Same H H' → Q (.str (nT n)) H'
def spRepr (C : Addr) : Sp := fun vs H Q _ => ∃ (p : Addr) (t b : Int), vs = [.ref p] ∧ WAt C H p t b ∧ Wn 1600 t b ∧ ∀ H', Same H H' → Q (.str (wT t b)) H'

section
variable {P : Program} {w : World} {K : PySem.W.Frag} {mg : Str → Option Value} {base : Heap}
theorem scShow : FnScope ["number", "blocks", "low"] ["number"] (defScope sShow) := ⟨rfl, rfl, rfl, by decide +kernel, rfl, by decide +kernel, by decide +kernel⟩
theorem ok_show {f : Addr} {fd : FuncData} {z : Int} {zt : Tok} (F : Fun K "show_whole" "show_whole" sShow f fd) (hst : mg "str" = none) (hrv : mg "reversed" = none) (hB : mg "BLOCK" = some (.int z zt)) (hz : (2 : Int) ^ 1600 ≤ z) :
    FnOk P w K mg base CX0 1 f fd ["number"] spShow := by
  refine F.ok scShow (fun vs H Q E h => ?_) (fun cdv A outer s H vs Q E hr h => ?_)
  · obtain ⟨n, rfl, _⟩ := h
    rfl
  · obtain ⟨n, rfl, n0, nz, k⟩ := h
    refine ⟨_, pss_cons (ps_set (i := 1) scShow.nd rfl (Or.inl rfl) (pe_lst pa_nil))
      (pss_cons (ps_while PassesOwn.never (pt_cmpR op_ge (pv 0) (pe_glob (v := .int z) rfl hB ⟨_, rfl⟩) (nomark _)) pss_never)
      (pss_cons (ps_expr (pe_bm PySem.F.plainAttrs_list PySem.F.slot_list_append PySem.F.type_list_append mt_append (pv 1) (pa_cons (pe_callTy call_str_int (by rfl) hst (by decide +kernel) (pa_cons (pv 0) pa_nil)) pa_nil)))
      (pss_one (ps_ret (pe_joinRev rfl (by rfl) hrv pe_str (pv 1)))))), ?_⟩
    refine ⟨Nat.zero_le _, fun l hl => ?_⟩
    have hlt : ¬ z ≤ n := by
      have h1 : n.natAbs < 2 ^ 1600 := nz
      have h2 : (n.natAbs : Int) = n := by omega
      have h3 : ((2 ^ 1600 : Nat) : Int) = (2 : Int) ^ 1600 := by norm_cast
      have h4 : (n.natAbs : Int) < ((2 ^ 1600 : Nat) : Int) := Int.ofNat_lt.mpr h1
      rw [h2, h3] at h4
      exact Int.not_le.mpr (Int.lt_of_lt_of_le h4 hz)
    refine while_by (fun σ H' => H' = upd H l (.lst []) ∧ σ = [some (.int n), some (.ref l), none]) (fun _ _ => 0) ⟨rfl, rfl⟩ ?_ ?_
    · rintro σ H' ⟨rfl, rfl⟩
      refine ⟨_, rfl, _, _, rfl, rfl, _, rfl, ?_⟩
      rw [decide_eq_false hlt]
      refine iteF ?_
      refine ⟨_, rfl, .inl ⟨rfl, _, SqL.of upd_same⟩, _, rfl, _, rfl, Nat.lt_trans (nz.log (by decide)) (by decide), l, _, _, rfl, rfl, upd_same, by decide, ?_⟩
      have ln := nT_len nz
      refine ⟨"", rfl, _, rfl, l, [nT n], rfl, SqL.of upd_same, ?_, ?_⟩
      · simp only [List.map_cons, List.map_nil, List.sum_cons, List.sum_nil, List.length_cons, List.length_nil]
        have e0 : ("" : Str).length = 0 := by decide +kernel
        rw [e0]
        omega
      · refine k _ fun b o e => ?_
        rw [upd_ne (ne_of_none e hl), upd_ne (ne_of_none e hl)]
        exact e
    · rintro σ H' Q1 Q2 hQ ⟨v, e, i, j, h1, h2, c, h3, q⟩
      exact ⟨v, e, i, j, h1, h2, c, h3, hQ _ _ q⟩
end
end K
namespace K
open PySem L2 Rp
section
variable {P : Program} {w : World} {K : PySem.W.Frag} {mg : Str → Option Value} {base : Heap}
theorem scRepr : FnScope ["self"] ["self"] (defScope sRepr) := ⟨rfl, rfl, rfl, by decide +kernel, rfl, by decide +kernel, by decide +kernel⟩
theorem ok_repr {f C fW fS : Addr} {fd fdS : FuncData} (F : Fun K "__repr__" "Weight.__repr__" sRepr f fd) (T : WTxt K mg C fW) (cS : Cl K mg "show_whole" fS fdS ["number"]) (GS : FnOk P w K mg base CX0 1 fS fdS ["number"] spShow) :
    FnOk P w K mg base CX0 2 f fd ["self"] (spRepr C) := by
  refine F.ok scRepr (fun vs H Q E h => ?_) (fun cdv A outer s H vs Q E hr h => ?_)
  · obtain ⟨p, t, b, rfl, _⟩ := h
    rfl
  · obtain ⟨p, t, b, rfl, ⟨dx, hp⟩, n1, k⟩ := h
    refine ⟨_, pss_cons (ps_if (pt_cmpR op_eq (pe_fld (pv 0) rfl) pe_int (nomark _)) (pss_one (ps_ret (pe_joined (.cons pe_str (.cons (pe_fmt (pe_call GS hr (by rfl) cS.g cS.k cS.b .nil pass0 (pa_cons (pe_fld (pv 0) rfl) pa_nil))) (.cons pe_str .nil)))))) pss_nil)
      (pss_one (ps_ret (pe_joined (.cons pe_str (.cons (pe_fmt (pe_call GS hr (by rfl) cS.g cS.k cS.b .nil pass0 (pa_cons (pe_fld (pv 0) rfl) pa_nil))) (.cons pe_str (.cons (pe_fmt (pe_call GS hr (by rfl) cS.g cS.k cS.b .nil pass0 (pa_cons (pe_fld (pv 0) rfl) pa_nil))) (.cons pe_str .nil)))))))), ?_⟩
    have l1 := nT_len n1.tz
    have l2 := nT_len n1.bz
    have e1 : ("Weight(" : Str).length = 7 := by decide +kernel
    have e2 : (")" : Str).length = 1 := by decide +kernel
    have e3 : (", " : Str).length = 2 := by decide +kernel
    have e4 : (Str.empty : Str).length = 0 := by decide +kernel
    have big : ∀ n, n ≤ 10000 → n ≤ sizeLine := fun n h => Nat.le_trans h (by decide)
    refine ⟨_, rfl, p, C, dx, _, _, rfl, hp, T.cl, T.nB, wf_bottom _ _, rfl, _, rfl, ?_⟩
    refine ite2 (fun h => ?_) (fun h => ?_)
    · have hb : b = 1 := by
        have := of_decide_eq_true h
        injection this
      refine ⟨"Weight(", rfl, big _ (by rw [append_len]; omega), _, rfl, p, C, dx, _, _, rfl, hp, T.cl, T.nT, wf_top _ _, t, rfl, n1.t0, n1.tz, fun H1 s1 => .inl ⟨_, rfl, big _ (by omega), nT t, rfl, big _ (by simp only [append_len]; omega), ")", rfl, big _ (by simp only [append_len]; omega), ?_⟩⟩
      have ew : wT t b = Str.empty ++ "Weight(" ++ nT t ++ ")" := if_pos hb
      have q := k H1 s1
      rw [ew] at q
      exact q
    · have hb : ¬ b = 1 := fun z => h (decide_eq_true (by rw [z]))
      refine ⟨"Weight(", rfl, big _ (by rw [append_len]; omega), _, rfl, p, C, dx, _, _, rfl, hp, T.cl, T.nT, wf_top _ _, t, rfl, n1.t0, n1.tz, fun H1 s1 => .inl ⟨_, rfl, big _ (by omega), nT t, rfl, big _ (by simp only [append_len]; omega), ", ", rfl, big _ (by simp only [append_len]; omega), ?_⟩⟩
      refine ⟨_, rfl, p, C, dx, _, _, rfl, s1 _ _ hp, T.cl, T.nB, wf_bottom _ _, b, rfl, Int.le_of_lt n1.b0, n1.bz, fun H2 s2 => .inl ⟨_, rfl, big _ (by omega), nT b, rfl, big _ (by simp only [append_len]; omega), ")", rfl, big _ (by simp only [append_len]; omega), ?_⟩⟩
      have ew : wT t b = Str.empty ++ "Weight(" ++ nT t ++ ", " ++ nT b ++ ")" := if_neg hb
      have q := k H2 (s1.trans s2)
      rw [ew] at q
      exact q
end
end K
namespace K
open PySem L2 Rp
/-- a method of the class at C, at f, by its promise -/
structure Me (K : PySem.W.Frag) (C : Addr) (m : Str) (f : Addr) (fd : FuncData) (ps : List Str) : Prop where
  m : Meth K C m f
  b : Binds K fd ps []
theorem up_bounds {t b : Int} (hb : 0 < b) : (((t + b - 1) / b) - 1) * b < t ∧ t ≤ ((t + b - 1) / b) * b := by
  have h1 := Int.mul_ediv_add_emod (t + b - 1) b
  have h2 := Int.emod_nonneg (t + b - 1) (by omega : b ≠ 0)
  have h3 := Int.emod_lt_of_pos (t + b - 1) hb
  have e : (((t + b - 1) / b) - 1) * b = b * ((t + b - 1) / b) - b := by rw [Int.sub_mul, Int.mul_comm, Int.one_mul]
  have e2 : ((t + b - 1) / b) * b = b * ((t + b - 1) / b) := Int.mul_comm _ _
  rw [e, e2]
  omega
theorem low_mul {t b : Int} (hb : 0 < b) : lowT t b * ((Int.gcd t b : Nat) : Int) = t ∧ lowB t b * ((Int.gcd t b : Nat) : Int) = b :=
  ⟨Int.ediv_mul_cancel (Int.gcd_dvd_left t b), Int.ediv_mul_cancel (Int.gcd_dvd_right t b)⟩
/-- cross products of a Weight and one in lowest terms -/
theorem cross_low {t b u d : Int} (hd : 0 < d) : (t * lowB u d < lowT u d * b) ↔ (t * d < u * b) := by
  have hg := gcd_pos (t := u) hd
  obtain ⟨e1, e2⟩ := low_mul (t := u) hd
  have h1 : t * d = (t * lowB u d) * ((Int.gcd u d : Nat) : Int) := by rw [Int.mul_assoc, e2]
  have h2 : u * b = (lowT u d * b) * ((Int.gcd u d : Nat) : Int) := by rw [Int.mul_right_comm, e1]
  rw [h1, h2]
  exact ⟨fun h => Int.mul_lt_mul_of_pos_right h hg, fun h => Int.lt_of_mul_lt_mul_right h (Int.le_of_lt hg)⟩
theorem cross_low' {t b u d : Int} (hd : 0 < d) : (lowT u d * b < t * lowB u d) ↔ (u * b < t * d) := by
  have hg := gcd_pos (t := u) hd
  obtain ⟨e1, e2⟩ := low_mul (t := u) hd
  have h1 : t * d = (t * lowB u d) * ((Int.gcd u d : Nat) : Int) := by rw [Int.mul_assoc, e2]
  have h2 : u * b = (lowT u d * b) * ((Int.gcd u d : Nat) : Int) := by rw [Int.mul_right_comm, e1]
  rw [h1, h2]
  exact ⟨fun h => Int.mul_lt_mul_of_pos_right h hg, fun h => Int.lt_of_mul_lt_mul_right h (Int.le_of_lt hg)⟩

def spAlone (C : Addr) : Sp := fun vs H Q _ => ∃ (p : Addr) (t b : Int), vs = [.ref p] ∧ WAt C H p t b ∧ Wn 3000 t b ∧ Q (.bl true) H
def spNear (C : Addr) : Sp := fun vs H Q _ => ∃ (p : Addr) (t b : Int), vs = [.ref p] ∧ WAt C H p t b ∧ Wn 2000 t b ∧ ∀ H', Same H H' → Q (.bl true) H'
section
variable {P : Program} {w : World} {K : PySem.W.Frag} {mg : Str → Option Value} {base : Heap}
theorem scAlone : FnScope ["_law_one", "_law_found"] ["_law_one"] (defScope sAlone) := ⟨rfl, rfl, rfl, by decide +kernel, rfl, by decide +kernel, by decide +kernel⟩
theorem ok_alone {f C fW fU fN fL : Addr} {fd fdU fdN fdL : FuncData} (F : Fun K "_law_alone_right" "_law_alone_right" sAlone f fd) (T : WTxt K mg C fW) (hrp : mg "repr" = none) (mU : Me K C "whole_up" fU fdU ["self"]) (GU : FnOk P w K mg base CX0 1 fU fdU ["self"] (spUp C))
    (mN : Me K C "is_nought" fN fdN ["self"]) (GN : FnOk P w K mg base CX0 1 fN fdN ["self"] (spNought C)) (cW : Cl K mg "_law_whole" fL fdL ["_law_thing"]) (GW : FnOk P w K mg base CX0 1 fL fdL ["_law_thing"] (spWhole K)) :
    FnOk P w K mg base CX0 2 f fd ["_law_one"] (spAlone C) := by
  refine F.ok scAlone (fun vs H Q E h => ?_) (fun cdv A outer s H vs Q E hr h => ?_)
  · obtain ⟨p, t, b, rfl, _⟩ := h
    rfl
  · obtain ⟨p, t, b, rfl, ⟨dx, hp⟩, n1, k⟩ := h
    have noU : (wf t b).lookup ("whole_up" : Str) = none := wf_no _ _ (by decide +kernel) (by decide +kernel)
    have noN : (wf t b).lookup ("is_nought" : Str) = none := wf_no _ _ (by decide +kernel) (by decide +kernel)
    refine ⟨_, pss_cons (ps_set (i := 1) scAlone.nd rfl (Or.inl rfl) (pe_meth0 (pv 0) T.cl mU.m GU hr mU.b .nil pass0))
      (pss_cons (ps_if (PW.pt (pw_or (pt_cmpR op_ne (pe_callB cr_reprB (by rfl) hrp (by decide +kernel) (pa_cons (pe_meth0 (pv 0) T.cl mN.m GN hr mN.b .nil pass0) pa_nil))
          (pe_callB cr_reprB (by rfl) hrp (by decide +kernel) (pa_cons (pe_cmpR op_eq (pe_fld (pv 0) rfl) pe_int (nomark _)) pa_nil)) (nomark _))
        (pw_or1 (pt_not (pt_val (pe_call GW hr (by rfl) cW.g cW.k cW.b .nil pass0 (pa_cons (pv 1) pa_nil))))))) (pss_one (ps_ret pe_bl)) pss_nil)
      (pss_one (ps_ret (pe_chain op_lt op_le (pe_op op_mulW (pe_op op_sub (pv 1) pe_int) (pe_fld (pv 0) rfl)) (pe_fld (pv 0) rfl) (pe_op op_mulW (pv 1) (pe_fld (pv 0) rfl)))))), ?_⟩
    obtain ⟨b1, b2⟩ := up_bounds (t := t) n1.b0
    have o1 : Sz 1 1 := by unfold Sz; decide
    have z1 : Sz 3002 (t + b - 1) := (n1.tz.add n1.bz).sub (o1.mono (by decide))
    have z2 : Sz 3002 ((t + b - 1) / b) := z1.div b
    have z3 : Sz 3003 ((t + b - 1) / b - 1) := z2.sub (o1.mono (by decide))
    refine ⟨_, rfl, p, dx, _, rfl, hp, noU, p, t, b, rfl, ⟨dx, hp⟩, n1.mono (by decide), ?_⟩
    refine ⟨_, rfl, p, dx, _, rfl, hp, noN, p, t, b, rfl, ⟨dx, hp⟩, _, rfl, _, rfl, p, C, dx, _, _, rfl, hp, T.cl, T.nT, wf_top _ _, rfl, _, rfl, rfl, _, rfl, ?_⟩
    refine iteNS rfl ?_
    refine ⟨_, rfl, _, rfl, true, rfl, iteF ?_⟩
    refine ⟨_, rfl, _, _, rfl, rfl, _, rfl, p, C, dx, _, _, rfl, hp, T.cl, T.nB, wf_bottom _ _, _, _, rfl, rfl, z3.mulOk n1.bz (by decide) (by decide) (by decide), ?_⟩
    refine ⟨_, rfl, p, C, dx, _, _, rfl, hp, T.cl, T.nT, wf_top _ _, _, _, rfl, rfl, _, rfl, ?_⟩
    rw [decide_eq_true b1]
    refine iteT ⟨_, rfl, _, rfl, p, C, dx, _, _, rfl, hp, T.cl, T.nB, wf_bottom _ _, _, _, rfl, rfl, z2.mulOk n1.bz (by decide) (by decide) (by decide), ?_⟩
    refine ⟨_, _, rfl, rfl, ?_⟩
    show Q (.bl (decide (t ≤ (t + b - 1) / b * b))) H
    rw [decide_eq_true b2]
    exact k
theorem scNear : FnScope ["_law_one", "_law_near"] ["_law_one"] (defScope sNear) := ⟨rfl, rfl, rfl, by decide +kernel, rfl, by decide +kernel, by decide +kernel⟩
theorem near_text : listText [("True" : Str), ("False" : Str)] = ("[True, False]" : Str) := by decide +kernel
theorem ok_near {f C fW fI fB : Addr} {fd fdI fdB : FuncData} (F : Fun K "_law_near_right" "_law_near_right" sNear f fd) (T : WTxt K mg C fW) (hrp : mg "repr" = none) (M : Mk K C fI) (GI : FnOk P w K mg base CX0 2 fI fdI ["self", "top", "bottom"] (spInit C)) (bI : Binds K fdI ["self", "top", "bottom"] [])
    (mB : Me K C "is_below" fB fdB ["self", "other"]) (GB : FnOk P w K mg base CX0 1 fB fdB ["self", "other"] (spBelow C)) : FnG P w K mg base CX0 4 f fd ["_law_one"] (spNear C) := by
  refine Fun_okG0 F scNear (fun vs H Q E h => ?_) (fun cdv A outer s H vs Q E gd hr h => ?_)
  · obtain ⟨p, t, b, rfl, _⟩ := h
    rfl
  · obtain ⟨p, t, b, rfl, ⟨dx, hp⟩, n1, k⟩ := h
    have hr1 : Room 1 _ := hr.mono (by decide)
    have p16 : CPow (10 : Int) (16 : Int) := (by show (0:Int) ≤ 16 ∧ (16:Int) ≤ 1000000 ∧ (10:Int).natAbs < 2 ^ 64; decide)
    have v16 : (10 : Int) ^ (16 : Int).toNat = 10000000000000000 := by decide
    refine ⟨_, pss_cons (ps_set (i := 1) scNear.nd rfl (Or.inl rfl) (pe_make M GI hr (by rfl) T.mgC bI .nil pass0 (pa_cons (pe_op op_add (pe_op op_mulW (pe_fld (pv 0) rfl) (pe_op op_pow pe_int pe_int)) pe_int) (pa_cons (pe_op op_mulW (pe_fld (pv 0) rfl) (pe_op op_pow pe_int pe_int)) pa_nil))))
      (pss_one (ps_ret (pe_cmpR op_eq (pe_callB (cr_repr (n := 2) (hr.mono (by decide)) gd) (by rfl) hrp (by decide +kernel) (pa_cons (pe_lst (pa_cons (pe_meth (pv 0) T.cl mB.m GB hr1 mB.b .nil pass0 (pa_cons (pv 1) pa_nil)) (pa_cons (pe_meth (pv 1) T.cl mB.m GB hr1 mB.b .nil pass0 (pa_cons (pv 0) pa_nil)) pa_nil))) pa_nil)) pe_str (nomark _)))), ?_⟩
    have N0 : (0 : Int) < 10000000000000000 := by decide
    have zN : Sz 54 10000000000000000 := by unfold Sz; decide
    have o1 : Sz 1 1 := by unfold Sz; decide
    have zt : Sz 2055 (t * 10000000000000000 + 1) := (n1.tz.mul zN).add (o1.mono (by decide))
    have zb : Sz 2054 (b * 10000000000000000) := n1.bz.mul zN
    have bN : 0 < b * 10000000000000000 := Int.mul_pos n1.b0 N0
    have tN : 0 ≤ t * 10000000000000000 + 1 := by have := Int.mul_nonneg n1.t0 (Int.le_of_lt N0); omega
    have nn : Wn 2055 (t * 10000000000000000 + 1) (b * 10000000000000000) := ⟨tN, bN, zt, zb.mono (by decide)⟩
    have lt1 : t * (b * 10000000000000000) < (t * 10000000000000000 + 1) * b := by
      have e1 : t * (b * 10000000000000000) = t * b * 10000000000000000 := by rw [Int.mul_assoc]
      have e2 : (t * 10000000000000000 + 1) * b = t * b * 10000000000000000 + b := by rw [Int.add_mul, Int.one_mul, Int.mul_right_comm]
      have := n1.b0
      omega
    refine ⟨_, rfl, p, C, dx, _, _, rfl, hp, T.cl, T.nT, wf_top _ _, _, _, rfl, rfl, p16, _, _, rfl, rfl, ?_, _, _, rfl, rfl, _, rfl, p, C, dx, _, _, rfl, hp, T.cl, T.nB, wf_bottom _ _, _, _, rfl, rfl, p16, _, _, rfl, rfl, ?_, ?_⟩
    · rw [v16]; exact n1.tz.mulOk zN (by decide) (by decide) (by decide)
    · rw [v16]; exact n1.bz.mulOk zN (by decide) (by decide) (by decide)
    rw [v16]
    intro x dz nx ndz ne
    have s0 := same_make (C := C) (fs := wf (lowT (t * 10000000000000000 + 1) (b * 10000000000000000)) (lowB (t * 10000000000000000 + 1) (b * 10000000000000000))) nx ndz
    refine ⟨x, dz, _, _, rfl, upd_same, tN, bN, zb.mono (by decide), rfl, ?_⟩
    have hp1 := s0 _ _ hp
    have hx1 : (upd (upd (upd H dz (.own x)) x (.ins C dz [])) x (.ins C dz (wf (lowT (t * 10000000000000000 + 1) (b * 10000000000000000)) (lowB (t * 10000000000000000 + 1) (b * 10000000000000000))))) x = some (.ins C dz (wf (lowT (t * 10000000000000000 + 1) (b * 10000000000000000)) (lowB (t * 10000000000000000 + 1) (b * 10000000000000000)))) := upd_same
    have no1 : (wf t b).lookup ("is_below" : Str) = none := wf_no _ _ (by decide +kernel) (by decide +kernel)
    have no2 : (wf (lowT (t * 10000000000000000 + 1) (b * 10000000000000000)) (lowB (t * 10000000000000000 + 1) (b * 10000000000000000))).lookup ("is_below" : Str) = none := wf_no _ _ (by decide +kernel) (by decide +kernel)
    have n2 := nn.low
    refine ⟨_, rfl, p, dx, _, rfl, hp1, no1, _, rfl, p, x, t, b, _, _, rfl, ⟨dx, hp1⟩, ⟨dz, hx1⟩, n1.mono (by decide), n2.mono (by decide), ?_⟩
    rw [decide_eq_true ((cross_low bN).mpr lt1)]
    refine ⟨_, rfl, x, dz, _, rfl, hx1, no2, _, rfl, x, p, _, _, t, b, rfl, ⟨dz, hx1⟩, ⟨dx, hp1⟩, n2.mono (by decide), n1.mono (by decide), ?_⟩
    rw [decide_eq_false (fun z => absurd ((cross_low' bN).mp z) (by omega))]
    refine ⟨(by show 2 ≤ sizeLine; decide), fun l hl => ?_⟩
    refine ⟨.ref l, listText [("True" : Str), ("False" : Str)], [l], rfl, says_lst (SqL.of upd_same) (by simp) rfl (fun i v hv => ?_), by decide +kernel, fun H2 s2 => ?_⟩
    · match i, hv with
      | 0, hv =>
        cases hv
        exact ⟨"True", rfl, says_bl true⟩
      | 1, hv =>
        cases hv
        exact ⟨"False", rfl, says_bl false⟩
    · refine ⟨rfl, ?_⟩
      rw [near_text]
      refine k H2 fun q o e => s2 _ _ ?_
      rw [upd_ne (ne_of_none (s0 _ _ e) hl)]
      exact s0 _ _ e
end
end K
namespace K
open PySem L2 Rp
/-! ### sums -/
def addQ (s q : Int × Int) : Int × Int := (s.1 * q.2 + q.1 * s.2, s.2 * q.2)
def sumQ (ps : List (Int × Int)) : Int × Int := ps.foldl addQ (0, 1)
theorem sumQ_more {ps : List (Int × Int)} {i : Nat} {q : Int × Int} (h : ps[i]? = some q) : sumQ (ps.take (i + 1)) = addQ (sumQ (ps.take i)) q := by
  unfold sumQ
  rw [List.take_add_one, h, List.foldl_append]
  rfl
theorem addQ_comm (a b c : Int × Int) : addQ (addQ a b) c = addQ (addQ a c) b := by
  unfold addQ
  simp only [Prod.mk.injEq]
  constructor
  · simp only [Int.add_mul, Int.mul_add]
    rw [Int.mul_right_comm a.1, Int.add_assoc, Int.add_assoc]
    congr 1
    rw [Int.add_comm]
    congr 1
    · rw [Int.mul_assoc, Int.mul_comm a.2]
    · rw [Int.mul_assoc, Int.mul_comm a.2]
  · rw [Int.mul_right_comm]
theorem foldl_rev {α β : Type} (f : α → β → α) (hc : ∀ a b c, f (f a b) c = f (f a c) b) : ∀ (l : List β) (a : α), l.reverse.foldl f a = l.foldl f a
  | [], _ => rfl
  | x :: l, a => by
    have ih := foldl_rev f hc l
    rw [List.reverse_cons, List.foldl_append, List.foldl_cons, ih]
    show f (l.foldl f a) x = l.foldl f (f a x)
    clear ih
    induction l generalizing a with
    | nil => rfl
    | cons y l ih => rw [List.foldl_cons, List.foldl_cons, ih, hc]
theorem sumQ_rev (ps : List (Int × Int)) : sumQ ps.reverse = sumQ ps := foldl_rev addQ addQ_comm ps (0, 1)
/-- lowest terms, as a pair -/
def lowQ (s : Int × Int) : Int × Int := (lowT s.1 s.2, lowB s.1 s.2)
theorem low_scale {g x y : Int} (hg : 0 < g) (hy : 0 < y) : lowT (g * x) (g * y) = lowT x y ∧ lowB (g * x) (g * y) = lowB x y := by
  have e : ((Int.gcd (g * x) (g * y) : Nat) : Int) = g * ((Int.gcd x y : Nat) : Int) := by
    rw [Int.gcd_mul_left, Int.natCast_mul]
    congr 1
    omega
  unfold lowT lowB
  rw [e]
  exact ⟨Int.mul_ediv_mul_of_pos _ _ hg, Int.mul_ediv_mul_of_pos _ _ hg⟩
theorem low_add {s q : Int × Int} (hs : 0 < s.2) (hq : 0 < q.2) : lowQ (addQ (lowQ s) q) = lowQ (addQ s q) := by
  have hg := gcd_pos (t := s.1) hs
  obtain ⟨e1, e2⟩ := low_mul (t := s.1) hs
  have hb : 0 < lowB s.1 s.2 := Int.ediv_pos_of_pos_of_dvd hs (Int.le_of_lt hg) (Int.gcd_dvd_right _ _)
  have k1 : s.1 * q.2 + q.1 * s.2 = ((Int.gcd s.1 s.2 : Nat) : Int) * (lowT s.1 s.2 * q.2 + q.1 * lowB s.1 s.2) := by
    rw [Int.mul_add]
    congr 1
    · rw [← Int.mul_assoc, Int.mul_comm _ (lowT _ _), e1]
    · rw [Int.mul_left_comm, Int.mul_comm _ (lowB _ _), e2]
  have k2 : s.2 * q.2 = ((Int.gcd s.1 s.2 : Nat) : Int) * (lowB s.1 s.2 * q.2) := by
    rw [← Int.mul_assoc, Int.mul_comm _ (lowB _ _), e2]
  obtain ⟨r1, r2⟩ := low_scale (x := lowT s.1 s.2 * q.2 + q.1 * lowB s.1 s.2) (y := lowB s.1 s.2 * q.2) hg (Int.mul_pos hb hq)
  show (lowT _ _, lowB _ _) = (lowT (s.1 * q.2 + q.1 * s.2) (s.2 * q.2), lowB (s.1 * q.2 + q.1 * s.2) (s.2 * q.2))
  rw [k1, k2, r1, r2]
  rfl
/-- numbers of a sum of i Weights below 2 ^ 100 -/
theorem sum_n {ps : List (Int × Int)} (h : ∀ q ∈ ps, Wn 100 q.1 q.2) : ∀ i, i ≤ ps.length → Wn (101 * i + 1) (sumQ (ps.take i)).1 (sumQ (ps.take i)).2
  | 0, _ => by
    show Wn 1 0 1
    exact ⟨by decide, by decide, by unfold Sz; decide, by unfold Sz; decide⟩
  | i + 1, hi => by
    have ih := sum_n h i (by omega)
    obtain ⟨q, hq⟩ : ∃ q, ps[i]? = some q := ⟨ps[i], List.getElem?_eq_getElem (by omega)⟩
    have n := h q (List.mem_of_getElem? hq)
    rw [sumQ_more hq]
    have a1 : Sz (101 * i + 1 + 100) ((sumQ (ps.take i)).1 * q.2) := ih.tz.mul n.bz
    have a2 : Sz (100 + (101 * i + 1)) (q.1 * (sumQ (ps.take i)).2) := n.tz.mul ih.bz
    have a3 : Sz (101 * i + 1 + 100) ((sumQ (ps.take i)).2 * q.2) := ih.bz.mul n.bz
    refine ⟨Int.add_nonneg (Int.mul_nonneg ih.t0 (Int.le_of_lt n.b0)) (Int.mul_nonneg n.t0 (Int.le_of_lt ih.b0)), Int.mul_pos ih.b0 n.b0, ?_, a3.mono (by omega)⟩
    exact (a1.add (a2.mono (by omega))).mono (by omega)
/-- a row of Weights -/
def WL (C : Addr) (H : Hp) (xs : List V) (ps : List (Int × Int)) : Prop := xs.length = ps.length ∧ ∀ (i : Nat) (q : Int × Int), ps[i]? = some q → ∃ p, xs[i]? = some (.ref p) ∧ WAt C H p q.1 q.2
theorem WL.same {C : Addr} {H H' : Hp} {xs : List V} {ps : List (Int × Int)} (h : WL C H xs ps) (e : Same H H') : WL C H' xs ps :=
  ⟨h.1, fun i q hq => let ⟨p, h1, h2⟩ := h.2 i q hq; ⟨p, h1, h2.same e⟩⟩
theorem WL.at {C : Addr} {H : Hp} {xs : List V} {ps : List (Int × Int)} (h : WL C H xs ps) {i : Nat} {x : V} (hx : xs[i]? = some x) : ∃ p q, x = .ref p ∧ ps[i]? = some q ∧ WAt C H p q.1 q.2 := by
  have hi : i < ps.length := by rw [← h.1]; exact (List.getElem?_eq_some_iff.mp hx).1
  obtain ⟨p, h1, h2⟩ := h.2 i _ (List.getElem?_eq_getElem hi)
  rw [hx] at h1
  cases h1
  exact ⟨p, _, rfl, List.getElem?_eq_getElem hi, h2⟩
theorem WL.rev {C : Addr} {H : Hp} {xs : List V} {ps : List (Int × Int)} (h : WL C H xs ps) : WL C H xs.reverse ps.reverse := by
  refine ⟨by rw [List.length_reverse, List.length_reverse, h.1], fun i q hq => ?_⟩
  have hi : i < ps.length := by have := (List.getElem?_eq_some_iff.mp hq).1; rwa [List.length_reverse] at this
  rw [List.getElem?_reverse hi] at hq
  rw [List.getElem?_reverse (by rw [h.1]; exact hi), h.1]
  exact h.2 _ q hq
theorem WL.snoc {C : Addr} {H : Hp} {xs : List V} {ps : List (Int × Int)} (h : WL C H xs ps) {p : Addr} {t b : Int} (hp : WAt C H p t b) : WL C H (xs ++ [.ref p]) (ps ++ [(t, b)]) := by
  refine ⟨by rw [List.length_append, List.length_append, h.1]; rfl, fun i q hq => ?_⟩
  by_cases hi : i < ps.length
  · rw [List.getElem?_append_left hi] at hq
    rw [List.getElem?_append_left (by rw [h.1]; exact hi)]
    exact h.2 i q hq
  · have hi' : i = ps.length := by
      have := (List.getElem?_eq_some_iff.mp hq).1
      rw [List.length_append] at this
      have e : [(t, b)].length = 1 := rfl
      omega
    subst hi'
    rw [List.getElem?_append_right (Nat.le_refl _), Nat.sub_self] at hq
    cases hq
    exact ⟨p, by rw [List.getElem?_append_right (by rw [h.1]; exact Nat.le_refl _), h.1, Nat.sub_self]; rfl, hp⟩

theorem sqT_same {K : PySem.W.Frag} {H H' : Hp} {a : Addr} {xs : List V} (h : SqT K H a xs) (e : Same H H') : SqT K H' a xs :=
  h.elim (fun h => .inl (h.elim (fun h => .inl (e _ _ h)) fun ⟨o, h⟩ => .inr ⟨o, e _ _ h⟩)) .inr
def spSum (K : PySem.W.Frag) (C : Addr) : Sp := fun vs H Q _ => ∃ (l : Addr) (xs : List V) (ps : List (Int × Int)), vs = [.ref l] ∧ SqL K H l xs ∧ WL C H xs ps ∧ ps.length ≤ 8 ∧ (∀ q ∈ ps, Wn 100 q.1 q.2) ∧
  ∀ (p : Addr) (H' : Hp), Same H H' → H p = none → H' p = some (.tup [.int (sumQ ps).1, .int (sumQ ps).2]) → Q (.ref p) H'
def spTotal (K : PySem.W.Frag) (C : Addr) : Sp := fun vs H Q _ => ∃ (l : Addr) (xs : List V) (ps : List (Int × Int)), vs = [.ref l] ∧ SqT K H l xs ∧ WL C H xs ps ∧ ps.length ≤ 8 ∧ (∀ q ∈ ps, Wn 100 q.1 q.2) ∧
  ∀ (x : Addr) (H' : Hp), Same H H' → WAt C H' x (lowT (sumQ ps).1 (sumQ ps).2) (lowB (sumQ ps).1 (sumQ ps).2) → Q (.ref x) H'
section
variable {P : Program} {w : World} {K : PySem.W.Frag} {mg : Str → Option Value} {base : Heap}
theorem scSum : FnScope ["_law_some", "_law_top", "_law_bottom", "_law_one"] ["_law_some"] (defScope sSum) := ⟨rfl, rfl, rfl, by decide +kernel, rfl, by decide +kernel, by decide +kernel⟩
theorem ok_sum {f C fW : Addr} {fd : FuncData} (F : Fun K "_law_sum" "_law_sum" sSum f fd) (T : WTxt K mg C fW) : FnOk P w K mg base CX0 1 f fd ["_law_some"] (spSum K C) := by
  refine F.ok scSum (fun vs H Q E h => ?_) (fun cdv A outer s H vs Q E hr h => ?_)
  · obtain ⟨l, xs, ps, rfl, _⟩ := h
    rfl
  · obtain ⟨l, xs, ps, rfl, hl, hW, hn, hall, k⟩ := h
    refine ⟨_, pss_cons (ps_asg (pe_tup (pa_cons pe_int (pa_cons pe_int pa_nil))) (pg_tup rfl (pgs_cons (pg_name (i := 1) scSum.nd rfl (Or.inl rfl)) (pgs_cons (pg_name (i := 2) scSum.nd rfl (Or.inl rfl)) pgs_nil))))
      (pss_cons (ps_for PassesOwn.never rfl (pi_list (pv 0)) (pg_name (i := 3) scSum.nd rfl (Or.inl rfl))
        (pss_one (ps_par (i := 1) (j := 2) rfl scSum.nd rfl rfl (by decide) rfl rfl (pa_cons (pe_op op_add (pe_op op_mulW (pv 1) (pe_fld (pv 3) rfl)) (pe_op op_mulW (pe_fld (pv 3) rfl) (pv 2))) (pa_cons (pe_op op_mulW (pv 2) (pe_fld (pv 3) rfl)) pa_nil)) (by rfl))))
      (pss_one (ps_ret (pe_tup (pa_cons (pv 1) (pa_cons (pv 2) pa_nil)))))), ?_⟩
    refine ⟨(by show 2 ≤ sizeLine; decide), fun p0 h0 => ⟨p0, _, rfl, SqT.of upd_same, rfl, _, _, rfl, _, _, rfl, rfl, ?_⟩⟩
    have s0 : Same H (upd H p0 (.tup [.int 0, .int 1])) := fun q o e => by
      rw [upd_ne (ne_of_none e h0)]
      exact e
    refine ⟨_, rfl, l, rfl, ⟨_, s0.seq hl⟩, for_list (K := K) (a := l) (xs := xs) (fun i σ H' => H' = upd H p0 (.tup [.int 0, .int 1]) ∧ ∃ v, σ = [some (.ref l), some (.int (sumQ (ps.take i)).1), some (.int (sumQ (ps.take i)).2), v]) ⟨rfl, none, rfl⟩ (fun i σ H' _ ⟨e, _⟩ => by rw [e]; exact s0.seq hl) ?_ ?_⟩
    · rintro i x σ H' hx ⟨rfl, v, rfl⟩
      obtain ⟨p, q, rfl, hq, dx, hp⟩ := (hW.same s0).at hx
      have hi : i < ps.length := (List.getElem?_eq_some_iff.mp hq).1
      have n1 := sum_n hall i (Nat.le_of_lt hi)
      have n2 := hall q (List.mem_of_getElem? hq)
      refine ⟨_, rfl, _, rfl, p, C, dx, _, _, rfl, hp, T.cl, T.nB, wf_bottom _ _, _, _, rfl, rfl, n1.tz.mulOk n2.bz (by omega) (by decide) (by omega), ?_⟩
      refine ⟨_, rfl, p, C, dx, _, _, rfl, hp, T.cl, T.nT, wf_top _ _, _, rfl, _, _, rfl, rfl, n2.tz.mulOk n1.bz (by decide) (by omega) (by omega), _, _, rfl, rfl, ?_⟩
      refine ⟨_, rfl, _, rfl, p, C, dx, _, _, rfl, hp, T.cl, T.nB, wf_bottom _ _, _, _, rfl, rfl, n1.bz.mulOk n2.bz (by omega) (by decide) (by omega), _, _, rfl, ?_⟩
      refine ⟨rfl, some (.ref p), ?_⟩
      rw [sumQ_more hq]
      rfl
    · rintro σ H' ⟨rfl, v, rfl⟩
      refine ⟨_, rfl, _, rfl, (by show 2 ≤ sizeLine; decide), fun p hp => ?_⟩
      have e : ps.take xs.length = ps := by rw [hW.1]; exact List.take_length
      rw [e]
      refine k p _ (fun q o e => ?_) (Fw.same (d := p) s0 p hp) upd_same
      have e' := s0 _ _ e
      rw [upd_ne (ne_of_none e' hp)]
      exact e'
theorem scTotal : FnScope ["weights", "result", "weight"] ["weights"] (defScope sTotal) := ⟨rfl, rfl, rfl, by decide +kernel, rfl, by decide +kernel, by decide +kernel⟩
theorem ok_total {f C fW fI fP : Addr} {fd fdI fdP : FuncData} (F : Fun K "total" "total" sTotal f fd) (T : WTxt K mg C fW) (M : Mk K C fI) (GI : FnOk P w K mg base CX0 2 fI fdI ["self", "top", "bottom"] (spInit C)) {ds : List Value} (vd : Vals [V.int 1] ds) (bI1 : Binds K fdI ["self", "top", "bottom"] ds)
    (mP : Me K C "plus" fP fdP ["self", "other"]) (GP : FnOk P w K mg base CX0 4 fP fdP ["self", "other"] (spPlus C)) : FnOk P w K mg base CX0 5 f fd ["weights"] (spTotal K C) := by
  refine F.ok scTotal (fun vs H Q E h => ?_) (fun cdv A outer s H vs Q E hr h => ?_)
  · obtain ⟨l, xs, ps, rfl, _⟩ := h
    rfl
  · obtain ⟨l, xs, ps, rfl, hl, hW, hn, hall, k⟩ := h
    have hr3 : Room 3 _ := hr.mono (by decide)
    refine ⟨_, pss_cons (ps_set (i := 1) scTotal.nd rfl (Or.inl rfl) (pe_make M GI hr3 (by rfl) T.mgC bI1 vd pass0 (pa_cons pe_int pa_nil)))
      (pss_cons (ps_for PassesOwn.never rfl (pi_tup (pv 0)) (pg_name (i := 2) scTotal.nd rfl (Or.inl rfl))
        (pss_one (ps_set (i := 1) scTotal.nd rfl (Or.inl rfl) (pe_meth (pv 1) T.cl mP.m GP hr mP.b .nil pass0 (pa_cons (pv 2) pa_nil)))))
      (pss_one (ps_ret (pv 1)))), ?_⟩
    intro x dz nx ndz ne
    have s0 := same_make (C := C) (fs := wf (lowT 0 1) (lowB 0 1)) nx ndz
    refine ⟨x, dz, 0, 1, rfl, upd_same, by decide, by decide, by unfold Sz; decide, rfl, ?_⟩
    have hl0 : SqT K (upd (upd (upd H dz (.own x)) x (.ins C dz [])) x (.ins C dz (wf (lowT 0 1) (lowB 0 1)))) l xs := sqT_same hl s0
    refine ⟨_, rfl, l, rfl, ⟨_, hl0⟩, for_tup (K := K) (a := l) (xs := xs) (fun i σ H' => Same H H' ∧ ∃ y v, σ = [some (.ref l), some (.ref y), v] ∧ WAt C H' y (lowT (sumQ (ps.take i)).1 (sumQ (ps.take i)).2) (lowB (sumQ (ps.take i)).1 (sumQ (ps.take i)).2))
      ⟨s0, x, none, rfl, dz, upd_same⟩ (fun i σ H' _ ⟨e, _⟩ => sqT_same hl e) ?_ ?_⟩
    · rintro i x σ H' hx ⟨e1, y, v, rfl, dy, hy⟩
      obtain ⟨p, q, rfl, hq, dx, hp⟩ := (hW.same e1).at hx
      have hi : i < ps.length := (List.getElem?_eq_some_iff.mp hq).1
      have n1 := sum_n hall i (Nat.le_of_lt hi)
      have n2 := hall q (List.mem_of_getElem? hq)
      have no : (wf (lowT (sumQ (ps.take i)).1 (sumQ (ps.take i)).2) (lowB (sumQ (ps.take i)).1 (sumQ (ps.take i)).2)).lookup ("plus" : Str) = none := wf_no _ _ (by decide +kernel) (by decide +kernel)
      refine ⟨_, rfl, y, dy, _, rfl, hy, no, _, rfl, y, p, _, _, q.1, q.2, rfl, ⟨dy, hy⟩, ⟨dx, hp⟩, n1.low.mono (by omega), n2.mono (by decide), fun z H2 e2 nz hz => ?_⟩
      have e3 := low_add (s := sumQ (ps.take i)) n1.b0 n2.b0
      have e4 : lowT (lowT (sumQ (ps.take i)).1 (sumQ (ps.take i)).2 * q.2 + q.1 * lowB (sumQ (ps.take i)).1 (sumQ (ps.take i)).2) (lowB (sumQ (ps.take i)).1 (sumQ (ps.take i)).2 * q.2) = lowT (sumQ (ps.take (i + 1))).1 (sumQ (ps.take (i + 1))).2 := by
        rw [sumQ_more hq]
        exact congrArg Prod.fst e3
      have e5 : lowB (lowT (sumQ (ps.take i)).1 (sumQ (ps.take i)).2 * q.2 + q.1 * lowB (sumQ (ps.take i)).1 (sumQ (ps.take i)).2) (lowB (sumQ (ps.take i)).1 (sumQ (ps.take i)).2 * q.2) = lowB (sumQ (ps.take (i + 1))).1 (sumQ (ps.take (i + 1))).2 := by
        rw [sumQ_more hq]
        exact congrArg Prod.snd e3
      rw [e4, e5] at hz
      exact ⟨e1.trans e2, z, _, rfl, hz⟩
    · rintro σ H' ⟨e1, y, v, rfl, hy⟩
      have e : ps.take xs.length = ps := by rw [hW.1]; exact List.take_length
      rw [e] at hy
      exact ⟨_, rfl, k y H' e1 hy⟩
end
end K
namespace K
open PySem L2 Rp
/-- what stands while a cell is looked at: the deck at d, the row of Weights at l -/
structure Run (C : Addr) (H0 H : Hp) (d l : Addr) (xs : List V) (ps : List (Int × Int)) : Prop where
  s0 : Same H0 H
  nd : H0 d = none
  nl : H0 l = none
  ne : l ≠ d
  dk : DeckAt H d
  ls : H l = some (.lst xs)
  wl : WL C H xs ps
  wn : ∀ q ∈ ps, Wn 100 q.1 q.2
theorem WL.keep {C : Addr} {H H' : Hp} {xs : List V} {ps : List (Int × Int)} (h : WL C H xs ps) (e : ∀ p t b, WAt C H p t b → WAt C H' p t b) : WL C H' xs ps :=
  ⟨h.1, fun i q hq => let ⟨p, h1, h2⟩ := h.2 i q hq; ⟨p, h1, e _ _ _ h2⟩⟩
section
variable {C : Addr} {H0 H H' : Hp} {d l : Addr} {xs : List V} {ps : List (Int × Int)}
theorem Run.fw (r : Run C H0 H d l xs ps) (f : Fw d H H') (dk : DeckAt H' d) : Run C H0 H' d l xs ps where
  s0 := fun q o e => f.kp q o (ne_of_none e r.nd) (r.s0 q o e)
  nd := r.nd
  nl := r.nl
  ne := r.ne
  dk := dk
  ls := f.kp l _ r.ne r.ls
  wl := r.wl.keep fun p t b ⟨dx, h⟩ => ⟨dx, f.kp p _ (fun z => by
    obtain ⟨_, _, _, h'⟩ := r.dk
    rw [z, h'] at h
    cases h) h⟩
  wn := r.wn
theorem Run.grow (r : Run C H0 H d l xs ps) (e : Same H H') : Run C H0 H' d l xs ps :=
  r.fw (Fw.of_same e) (r.dk.same e)
theorem Run.app (r : Run C H0 H d l xs ps) {p : Addr} {t b : Int} (hp : WAt C H p t b) (hn : Wn 100 t b) : Run C H0 (upd H l (.lst (xs ++ [.ref p]))) d l (xs ++ [.ref p]) (ps ++ [(t, b)]) where
  s0 := fun q o e => by rw [upd_ne (ne_of_none e r.nl)]; exact r.s0 q o e
  nd := r.nd
  nl := r.nl
  ne := r.ne
  dk := by
    obtain ⟨a, b, c, h⟩ := r.dk
    exact ⟨a, b, c, by rw [upd_ne (Ne.symm r.ne)]; exact h⟩
  ls := upd_same
  wl := by
    have k2 : ∀ (o : List V) p t b, WAt C H p t b → WAt C (upd H l (.lst o)) p t b := fun o p t b ⟨dx, h⟩ => ⟨dx, by
      rw [upd_ne (fun z => by rw [z, r.ls] at h; cases h)]
      exact h⟩
    exact (r.wl.snoc hp).keep (k2 _)
  wn := fun q hq => by
    rcases List.mem_append.mp hq with z | z
    · exact r.wn q z
    · rw [List.mem_singleton.mp z]; exact hn
end
/-- repr of a row of Weights -/
def rowT (ps : List (Int × Int)) : Str := listText (ps.map fun q => wT q.1 q.2)
theorem textFrom_le : ∀ (ts : List Str) (k : Nat) (acc : Str) (m : Nat), (∀ t ∈ ts, t.length ≤ m) → (textFrom k acc ts).length ≤ acc.length + ts.length * (m + 2)
  | [], k, acc, m, _ => by show acc.length ≤ _; omega
  | t :: r, k, acc, m, h => by
    have ih := textFrom_le r (k + 1) (acc ++ (if k > 0 then ", " else "" : String) ++ t) m fun u hu => h u (List.mem_cons_of_mem _ hu)
    have ht := h t List.mem_cons_self
    have e : (acc ++ (if k > 0 then ", " else "" : String) ++ t).length ≤ acc.length + 2 + t.length := by
      rw [strLen_append, strLen_append]
      have : (((if k > 0 then ", " else "" : String) : Str)).length ≤ 2 := by split <;> decide +kernel
      omega
    show (textFrom (k + 1) _ r).length ≤ _
    rw [List.length_cons, Nat.add_mul]
    omega
theorem rowT_len {ps : List (Int × Int)} (hl : ps.length ≤ 8) (h : ∀ q ∈ ps, Wn 100 q.1 q.2) : (rowT ps).length ≤ sizeLine := by
  have h1 := textFrom_le (ps.map fun q => wT q.1 q.2) 0 "[" 4000 fun t ht => by
    obtain ⟨q, hq, rfl⟩ := List.mem_map.mp ht
    exact wT_len ((h q hq).tz.mono (by decide)) ((h q hq).bz.mono (by decide))
  unfold rowT listText
  rw [strLen_append]
  have e1 : ("[" : Str).length = 1 := by decide +kernel
  have e2 : ("]" : Str).length = 1 := by decide +kernel
  have e3 : sizeLine = 16777216 := sizeLine_eq
  rw [List.length_map] at h1
  rw [e2, e3]
  rw [e1] at h1
  have : ps.length * (4000 + 2) ≤ 8 * 4002 := Nat.mul_le_mul_right _ hl
  omega
/-- what repr tells of the row -/
theorem says_row {X : Cx} {C fR : Addr} {fdR : FuncData} {H : Hp} {l : Addr} {xs : List V} {ps : List (Int × Int)} (GR : FnOk X.prog X.w X.K X.mg X.base CX0 2 fR fdR ["self"] (spRepr C)) (hs : PySem.W.findIn X.K (.ref C) "__repr__" = some (some (.ref fR)))
    (hf : PySem.W.isFn X.K (.ref fR) = true) (bR : Binds X.K fdR ["self"] []) (hl : H l = some (.lst xs)) (hW : WL C H xs ps) (hn : ∀ q ∈ ps, Wn 100 q.1 q.2) : Says X 5 [l] H (.ref l) (rowT ps) := by
  refine says_lst (n := 3) (SqL.of hl) (by simp) (by rw [List.length_map, hW.1]) fun i x hx => ?_
  obtain ⟨p, q, rfl, hq, dx, hp⟩ := hW.at hx
  have n1 := hn q (List.mem_of_getElem? hq)
  refine ⟨wT q.1 q.2, by rw [List.getElem?_map, hq]; rfl, says_own (E := E0) GR hs hf bR pass0 hp fun H1 e1 => ?_⟩
  exact ⟨p, q.1, q.2, rfl, ⟨dx, e1 _ _ hp⟩, n1.mono (by decide), fun H' e => ⟨rfl, e⟩⟩
end K
namespace K
open PySem L2 Rp
theorem pick4 {a b c e w : Int} (w0 : 0 ≤ w) (w1 : w < 4) (a0 : 0 ≤ a) (b0 : 0 ≤ b) (c0 : 0 ≤ c) (e0 : 0 ≤ e) (az : Sz 90 a) (bz : Sz 90 b) (cz : Sz 90 c) (ez : Sz 90 e) : ∃ v, atI [V.int a, .int b, .int c, .int e] w = some (.int v) ∧ 0 ≤ v ∧ Sz 90 v := by
  have h : w = 0 ∨ w = 1 ∨ w = 2 ∨ w = 3 := by omega
  rcases h with rfl | rfl | rfl | rfl
  · exact ⟨a, rfl, a0, az⟩
  · exact ⟨b, rfl, b0, bz⟩
  · exact ⟨c, rfl, c0, cz⟩
  · exact ⟨e, rfl, e0, ez⟩
def spLaw (K : PySem.W.Frag) : Sp := fun vs H Q _ => ∃ (a : Addr) (ns : List Int), vs = [.ref a] ∧ SqL K H a (ns.map V.int) ∧ ns.length ≤ 63 ∧ ∀ H', Q (.bl true) H'
/-- all that the law calls -/
structure All (P : Program) (w : World) (K : PySem.W.Frag) (mg : Str → Option Value) (base : Heap) (C : Addr) : Prop where
  ex : ∃ (fW fI fR fB fN fU fDk fDr fT fL fA fNr fS fTo : Addr) (dI dR dB dN dU dDk dDr dT dL dA dNr dS dTo : FuncData),
    WTxt K mg C fW ∧ Mk K C fI ∧ FnOk P w K mg base CX0 2 fI dI ["self", "top", "bottom"] (spInit C) ∧ Binds K dI ["self", "top", "bottom"] [] ∧ (∃ ds, Vals [V.int 1] ds ∧ Binds K dI ["self", "top", "bottom"] ds) ∧
    (FnOk P w K mg base CX0 2 fR dR ["self"] (spRepr C) ∧ PySem.W.findIn K (.ref C) "__repr__" = some (some (.ref fR)) ∧ PySem.W.isFn K (.ref fR) = true ∧ Binds K dR ["self"] []) ∧
    (Me K C "is_below" fB dB ["self", "other"] ∧ FnOk P w K mg base CX0 1 fB dB ["self", "other"] (spBelow C)) ∧
    (Me K C "is_nought" fN dN ["self"] ∧ FnOk P w K mg base CX0 1 fN dN ["self"] (spNought C)) ∧
    (Me K C "whole_up" fU dU ["self"] ∧ FnOk P w K mg base CX0 1 fU dU ["self"] (spUp C)) ∧
    (Cl K mg "_law_deck" fDk dDk ["_law_cell"] ∧ FnOk P w K mg base CX0 1 fDk dDk ["_law_cell"] spDeck) ∧
    (Cl K mg "_law_draw" fDr dDr ["_law_deck_here", "_law_most"] ∧ FnOk P w K mg base CX0 1 fDr dDr ["_law_deck_here", "_law_most"] spDraw) ∧
    (Cl K mg "_law_two" fT dT ["_law_deck_here"] ∧ FnOk P w K mg base CX0 2 fT dT ["_law_deck_here"] spTwo) ∧
    (Cl K mg "_law_is" fL dL ["_law_found", "_law_top", "_law_bottom"] ∧ FnOk P w K mg base CX0 3 fL dL ["_law_found", "_law_top", "_law_bottom"] (spIs C)) ∧
    (Cl K mg "_law_alone_right" fA dA ["_law_one"] ∧ FnOk P w K mg base CX0 2 fA dA ["_law_one"] (spAlone C)) ∧
    (Cl K mg "_law_near_right" fNr dNr ["_law_one"] ∧ FnG P w K mg base CX0 4 fNr dNr ["_law_one"] (spNear C)) ∧
    (Cl K mg "_law_sum" fS dS ["_law_some"] ∧ FnOk P w K mg base CX0 1 fS dS ["_law_some"] (spSum K C)) ∧
    (Cl K mg "total" fTo dTo ["weights"] ∧ FnOk P w K mg base CX0 5 fTo dTo ["weights"] (spTotal K C))
structure Blt2 (mg : Str → Option Value) : Prop where
  max : mg "max" = none
  range : mg "range" = none
  repr : mg "repr" = none
  tuple : mg "tuple" = none
abbrev lawN : List Str := ["_law_script", "_law_cell", "_law_deck_here", "_law_some", "_law_k", "_law_way", "_law_top", "_law_bottom", "_law_kept", "_law_one", "_law_other", "_law_below", "_law_row"]
section
variable {P : Program} {w : World} {K : PySem.W.Frag} {mg : Str → Option Value} {base : Heap}
theorem scLaw : FnScope lawN ["_law_script"] (defScope sLaw) := ⟨rfl, rfl, rfl, by decide +kernel, rfl, by decide +kernel, by decide +kernel⟩
theorem ok_law {f C : Addr} {fd : FuncData} (F : Fun K "law" "law" sLaw f fd) (Z : All P w K mg base C) (B : Blt2 mg) : FnG P w K mg base CX0 6 f fd ["_law_script"] (spLaw K) := by
  obtain ⟨fW, fI, fR, fB, fN, fU, fDk, fDr, fT, fL, fA, fNr, fS, fTo, dI, dR, dB, dN, dU, dDk, dDr, dT, dL, dA, dNr, dS, dTo, T, M, GI, bI, ⟨ds, vd, bI1⟩, ⟨GR, rs, rf, bR⟩, ⟨mB, GB⟩, ⟨mN, GN⟩, ⟨mU, GU⟩, ⟨cDk, GDk⟩, ⟨cDr, GDr⟩, ⟨cT, GT⟩, ⟨cL, GL⟩, ⟨cA, GA⟩, ⟨cNr, GNr⟩, ⟨cS, GS⟩, ⟨cTo, GTo⟩⟩ := Z.ex
  refine Fun_okG0 F scLaw (fun vs H Q E h => ?_) (fun cdv A outer s H vs Q E gd hr h => ?_)
  · obtain ⟨a, ns, rfl, _⟩ := h
    rfl
  · obtain ⟨a, ns, rfl, hS, hlen, k⟩ := h
    have hr1 : Room 1 _ := hr.mono (by decide)
    have hr2 : Room 2 _ := hr.mono (by decide)
    have hr3 : Room 3 _ := hr.mono (by decide)
    have hr4 : Room 4 _ := hr.mono (by decide)
    have o1 : Sz 1 1 := by unfold Sz; decide
    refine ⟨_, pss_cons (ps_for PassesOwn.never rfl (pi_list (pe_op op_cat (pe_slice sl_list (pv 0) po_none (po_some pe_int)) (pe_lst (pa_cons pe_int pa_nil)))) (pg_name (i := 1) scLaw.nd rfl (Or.inl rfl))
        (pss_cons (ps_set (i := 2) scLaw.nd rfl (Or.inl rfl) (pe_call GDk hr1 (by rfl) cDk.g cDk.k cDk.b .nil pass0 (pa_cons (pv 1) pa_nil)))
        (pss_cons (ps_set (i := 3) scLaw.nd rfl (Or.inl rfl) (pe_lst pa_nil))
        (pss_cons (ps_for PassesOwn.never rfl (pi_range1 (by rfl) B.range (pa_cons (pe_call GDr hr1 (by rfl) cDr.g cDr.k cDr.b .nil pass0 (pa_cons (pv 2) (pa_cons pe_int pa_nil))) pa_nil)) (pg_name (i := 4) scLaw.nd rfl (Or.inl rfl))
          (pss_cons (ps_set (i := 5) scLaw.nd rfl (Or.inl rfl) (pe_call GDr hr1 (by rfl) cDr.g cDr.k cDr.b .nil pass0 (pa_cons (pv 2) (pa_cons pe_int pa_nil))))
          (pss_cons (ps_asg (pe_call GT hr2 (by rfl) cT.g cT.k cT.b .nil pass0 (pa_cons (pv 2) pa_nil)) (pg_tup rfl (pgs_cons (pg_name (i := 6) scLaw.nd rfl (Or.inl rfl)) (pgs_cons (pg_name (i := 7) scLaw.nd rfl (Or.inl rfl)) pgs_nil))))
          (pss_one (ps_expr (pe_bm PySem.F.plainAttrs_list PySem.F.slot_list_append PySem.F.type_list_append mt_append (pv 3)
            (pa_cons (pe_make M GI hr3 (by rfl) T.mgC bI .nil pass0 (pa_cons (pe_ix ix_list (pe_lst (pa_cons (pv 6) (pa_cons (pe_op op_mul (pv 6) (pv 7)) (pa_cons (pe_op op_add (pe_op op_mul (pv 6) (pv 7)) pe_int)
              (pa_cons (pe_callB (call_max2 rfl) (by rfl) B.max (by decide +kernel) (pa_cons pe_int (pa_cons (pe_op op_sub (pe_op op_mul (pv 6) (pv 7)) pe_int) pa_nil))) pa_nil))))) (pv 5) (fun _ _ => rfl)) (pa_cons (pv 7) pa_nil))) pa_nil)))))))
        (pss_cons (ps_set (i := 8) scLaw.nd rfl (Or.inl rfl) (pe_callB (cr_repr (n := 5) hr gd) (by rfl) B.repr (by decide +kernel) (pa_cons (pv 3) pa_nil)))
        (pss_cons (ps_for PassesOwn.never rfl (pi_list (pv 3)) (pg_name (i := 9) scLaw.nd rfl (Or.inl rfl))
          (pss_cons (ps_for PassesOwn.never rfl (pi_list (pv 3)) (pg_name (i := 10) scLaw.nd rfl (Or.inl rfl))
            (pss_cons (ps_set (i := 11) scLaw.nd rfl (Or.inl rfl) (pe_cmpR op_lt (pe_op op_mulW (pe_fld (pv 9) rfl) (pe_fld (pv 10) rfl)) (pe_op op_mulW (pe_fld (pv 10) rfl) (pe_fld (pv 9) rfl)) (nomark _)))
            (pss_one (ps_if (pt_cmpR op_ne (pe_callB cr_reprB (by rfl) B.repr (by decide +kernel) (pa_cons (pe_meth (pv 9) T.cl mB.m GB hr1 mB.b .nil pass0 (pa_cons (pv 10) pa_nil)) pa_nil)) (pe_callB cr_reprB (by rfl) B.repr (by decide +kernel) (pa_cons (pv 11) pa_nil)) (nomark _)) (pss_one (ps_ret pe_bl)) pss_nil))))
          (pss_one (ps_if (PW.pt (pw_or (pt_not (pt_val (pe_call GA hr2 (by rfl) cA.g cA.k cA.b .nil pass0 (pa_cons (pv 9) pa_nil)))) (pw_or1 (pt_not (pt_val (pe_callG GNr gd hr4 (by rfl) cNr.g cNr.k cNr.b .nil pass0 (pa_cons (pv 9) pa_nil))))))) (pss_one (ps_ret pe_bl)) pss_nil))))
        (pss_cons (ps_asg (pe_call GS hr1 (by rfl) cS.g cS.k cS.b .nil pass0 (pa_cons (pv 3) pa_nil)) (pg_tup rfl (pgs_cons (pg_name (i := 6) scLaw.nd rfl (Or.inl rfl)) (pgs_cons (pg_name (i := 7) scLaw.nd rfl (Or.inl rfl)) pgs_nil))))
        (pss_cons (ps_for PassesOwn.never rfl (pi_list (pe_lst (pa_cons (pe_callTy call_tuple_of (by rfl) B.tuple (by decide +kernel) (pa_cons (pv 3) pa_nil)) (pa_cons (pe_callTy call_tuple_of (by rfl) B.tuple (by decide +kernel) (pa_cons (pe_revL (pv 3)) pa_nil)) (pa_cons (pe_callTy call_tuple_of (by rfl) B.tuple (by decide +kernel) (pa_cons (pv 3) pa_nil)) pa_nil))))) (pg_name (i := 12) scLaw.nd rfl (Or.inl rfl))
          (pss_one (ps_if (pt_not (pt_val (pe_call GL hr3 (by rfl) cL.g cL.k cL.b .nil pass0 (pa_cons (pe_call GTo hr (by rfl) cTo.g cTo.k cTo.b .nil pass0 (pa_cons (pv 12) pa_nil)) (pa_cons (pv 6) (pa_cons (pv 7) pa_nil)))))) (pss_one (ps_ret pe_bl)) pss_nil)))
        (pss_one (ps_if (pt_cmpR op_ne (pe_callB (cr_repr (n := 5) hr gd) (by rfl) B.repr (by decide +kernel) (pa_cons (pv 3) pa_nil)) (pv 8) (nomark _)) (pss_one (ps_ret pe_bl)) pss_nil))))))))))
      (pss_one (ps_ret (pe_and (pe_call GL hr3 (by rfl) cL.g cL.k cL.b .nil pass0 (pa_cons (pe_call GTo hr (by rfl) cTo.g cTo.k cTo.b .nil pass0 (pa_cons (pe_tup pa_nil) pa_nil)) (pa_cons pe_int (pa_cons pe_int pa_nil))))
        (pe_and (pe_cmpR op_isBl (pe_meth0 (pe_make M GI hr3 (by rfl) T.mgC bI1 vd pass0 (pa_cons pe_int pa_nil)) T.cl mN.m GN hr1 mN.b .nil pass0) pe_bl (nomark _))
        (pe_one (pe_cmpR op_eq (pe_meth0 (pe_make M GI hr3 (by rfl) T.mgC bI1 vd pass0 (pa_cons pe_int pa_nil)) T.cl mU.m GU hr1 mU.b .nil pass0) pe_int (nomark _))))))), ?_⟩
    refine ⟨_, rfl, 10, rfl, a, _, rfl, hS, fun p1 h1 => ⟨(by show 1 ≤ sizeLine; decide), fun p2 h2 => ?_⟩⟩
    have n12 : p1 ≠ p2 := fun z => by rw [← z, upd_same] at h2; cases h2
    have hcut : (cutV (ns.map V.int) none (some 10)).length ≤ 63 := by
      have := cutV_length (ns.map V.int) none (some 10)
      rw [List.length_map] at this
      omega
    refine ⟨p1, p2, _, _, rfl, rfl, by rw [upd_ne n12]; exact upd_same, upd_same, ?_, fun p3 h3 => ?_⟩
    · have e : ([V.int 3] : List V).length = 1 := rfl
      rw [e]
      exact Nat.le_trans (Nat.add_le_add_right hcut 1) (by decide)
    have allz : ∀ (i : Nat) (x : V), (cutV (ns.map V.int) none (some 10) ++ [V.int 3])[i]? = some x → ∃ z, x = .int z := fun i x hx => by
      have hm := List.mem_of_getElem? hx
      rcases List.mem_append.mp hm with z | z
      · have z2 : x ∈ ns.map V.int := List.mem_of_mem_drop (List.mem_of_mem_take z)
        obtain ⟨n, _, e⟩ := List.mem_map.mp z2
        exact ⟨n, e.symm⟩
      · exact ⟨3, List.mem_singleton.mp z⟩
    generalize hH0 : upd (upd (upd H p1 (.lst (cutV (ns.map V.int) none (some 10)))) p2 (.lst [V.int 3])) p3 (.lst (cutV (ns.map V.int) none (some 10) ++ [V.int 3])) = H0
    generalize hcs : cutV (ns.map V.int) none (some 10) ++ [V.int 3] = cs at *
    have hL0 : H0 p3 = some (.lst cs) := by rw [← hH0]; exact upd_same
    refine ⟨p3, rfl, ⟨_, SqL.of hL0⟩, for_list (K := K) (a := p3) (xs := cs) (fun i σ H' => Same H0 H' ∧ ∃ v1 v2 v3 v4 v5 v6 v7 v8 v9 v10 v11 v12, σ = [some (.ref a), v1, v2, v3, v4, v5, v6, v7, v8, v9, v10, v11, v12])
      ⟨Same.refl _, none, none, none, none, none, none, none, none, none, none, none, none, rfl⟩ (fun i σ H' _ ⟨e, _⟩ => e.seq (SqL.of hL0)) ?_ ?_⟩
    · rintro i x σ H' hx ⟨e0, v1, v2, v3, v4, v5, v6, v7, v8, v9, v10, v11, v12, rfl⟩
      obtain ⟨z, rfl⟩ := allz i x hx
      refine ⟨_, rfl, z, rfl, fun d hd H1 d1 q1 => ⟨Nat.zero_le _, fun l hl => ?_⟩⟩
      have nld : l ≠ d := d1.ne hl
      have hl' : H' l = none := (q1 l nld).symm.trans hl
      have R0 : Run C H0 (upd H1 l (.lst [])) d l [] [] :=
        { s0 := fun q o e => by
            have e1 := e0 q o e
            have nq : q ≠ d := ne_of_none e1 hd
            have e2 := (q1 q nq).trans e1
            rw [upd_ne (ne_of_none e2 hl)]
            exact e2
          nd := Fw.same (d := d) e0 d hd, nl := Fw.same (d := d) e0 l hl', ne := nld, dk := d1.upd hl, ls := upd_same, wl := ⟨rfl, fun i q hq => by simp at hq⟩, wn := fun q hq => by simp at hq }
      refine ⟨_, rfl, d, 9, rfl, by decide, by decide, R0.dk, fun r r0 r1 H3 d3 e3 => ?_⟩
      refine ⟨r, rfl, by omega, by omega, for_range (lo := 0) (n := r.toNat) (fun j σ H2 => (∃ xs ps, Run C H0 H2 d l xs ps ∧ ps.length = j) ∧ ∃ u4 u5 u6 u7 u8 u9 u10 u11 u12, σ = [some (.ref a), some (.int z), some (.ref d), some (.ref l), u4, u5, u6, u7, u8, u9, u10, u11, u12]) ?_ ?_ ?_⟩
      · exact ⟨⟨[], [], R0.fw (Fw.draw d3 e3) d3, rfl⟩, v4, v5, v6, v7, v8, v9, v10, v11, v12, rfl⟩
      · rintro j σ H2 hj ⟨⟨xs, ps, R, hps⟩, u4, u5, u6, u7, u8, u9, u10, u11, u12, rfl⟩
        refine ⟨_, rfl, d, 4, rfl, by decide, by decide, R.dk, fun wy w0 w1 Ha da ea => ?_⟩
        have R1 := R.fw (Fw.draw da ea) da
        refine ⟨_, rfl, d, rfl, da, fun p t b Hb t0 t1 b0 b1 hp0 hp db fb => ⟨p, _, rfl, SqT.of hp, rfl, _, _, rfl, _, _, rfl, rfl, ?_⟩⟩
        have R2 := R1.fw fb db
        have tz : Sz 40 t := by show t.natAbs < 1099511627776; omega
        have bz : Sz 40 b := by show b.natAbs < 1099511627776; omega
        have m0 : 0 ≤ t * b := Int.mul_nonneg t0 (Int.le_of_lt b0)
        have mz : Sz 80 (t * b) := tz.mul bz
        refine ⟨_, rfl, .inl ⟨rfl, _, SqL.of R2.ls⟩, ?_⟩
        refine ⟨_, rfl, _, rfl, _, rfl, _, _, rfl, rfl, .inl ⟨by omega, by omega⟩, _, rfl, _, rfl, _, _, rfl, rfl, .inl ⟨by omega, by omega⟩, _, _, rfl, rfl, _, rfl, _, rfl, _, _, rfl, rfl, .inl ⟨by omega, by omega⟩, _, _, rfl, rfl, 0, _, rfl, (by show 4 ≤ sizeLine; decide), fun q hq => ?_⟩
        obtain ⟨v, hv, hv0, hvz⟩ := pick4 (a := t) (b := t * b) (c := t * b + 1) (e := if t * b - 1 > 0 then t * b - 1 else 0) w0 w1 t0 m0 (by omega) (by split <;> omega) (tz.mono (by decide)) (mz.mono (by decide)) ((mz.add (o1.mono (by decide))).mono (by decide))
          (by split
              · exact (mz.sub (o1.mono (by decide))).mono (by decide)
              · exact (show Sz 1 0 by unfold Sz; decide).mono (by decide))
        refine ⟨_, rfl, q, _, _, _, rfl, rfl, SqL.of upd_same, hv, _, rfl, ?_⟩
        intro x dx nx ndx ne
        have sq : Same Hb (upd Hb q (.lst [.int t, .int (t * b), .int (t * b + 1), .int (if t * b - 1 > 0 then t * b - 1 else 0)])) := fun y o e => by
          rw [upd_ne (ne_of_none e hq)]
          exact e
        have R3 := (R2.grow sq).grow (same_make (C := C) (fs := wf (lowT v b) (lowB v b)) nx ndx)
        refine ⟨x, dx, v, b, rfl, upd_same, hv0, b0, bz.mono (by decide), rfl, l, _, _, rfl, rfl, R3.ls, small1000 ?_, ?_⟩
        · rw [R.wl.1]; omega
        · exact ⟨⟨_, _, R3.app (p := x) ⟨dx, upd_same⟩ ((show Wn 90 v b from ⟨hv0, b0, hvz, bz.mono (by decide)⟩).low.mono (by decide)), by rw [List.length_append, hps]; rfl⟩, _, _, _, _, _, _, _, _, _, rfl⟩
      · rintro σ H2 ⟨⟨xs, ps, R, hps⟩, u4, u5, u6, u7, u8, u9, u10, u11, u12, rfl⟩
        have l8 : ps.length ≤ 8 := by omega
        refine ⟨_, rfl, .ref l, rowT ps, [l], rfl, says_row GR rs rf bR R.ls R.wl R.wn, rowT_len l8 R.wn, fun H5 s5 => ?_⟩
        have R5 := R.grow s5
        refine ⟨_, rfl, l, rfl, ⟨_, SqL.of R5.ls⟩, for_list (K := K) (a := l) (xs := xs) (fun i σ H' => Run C H0 H' d l xs ps ∧ ∃ u4 u5 u6 u7 u9 u10 u11 u12, σ = [some (.ref a), some (.int z), some (.ref d), some (.ref l), u4, u5, u6, u7, some (.str (rowT ps)), u9, u10, u11, u12]) ?_ ?_ ?_ ?_⟩
        · exact ⟨R5, u4, u5, u6, u7, u9, u10, u11, u12, rfl⟩
        · exact fun i σ H' _ ⟨r, _⟩ => SqL.of r.ls
        · rintro i1 x σ H6 hx1 ⟨R6, u4, u5, u6, u7, u9, u10, u11, u12, rfl⟩
          obtain ⟨p, q, rfl, hq, _⟩ := R6.wl.at hx1
          have n1 := R6.wn q (List.mem_of_getElem? hq)
          refine ⟨_, rfl, l, rfl, ⟨_, SqL.of R6.ls⟩, for_list (K := K) (a := l) (xs := xs) (fun i σ H' => Run C H0 H' d l xs ps ∧ ∃ u4 u5 u6 u7 u10 u11 u12, σ = [some (.ref a), some (.int z), some (.ref d), some (.ref l), u4, u5, u6, u7, some (.str (rowT ps)), some (.ref p), u10, u11, u12]) ?_ ?_ ?_ ?_⟩
          · exact ⟨R6, u4, u5, u6, u7, u10, u11, u12, rfl⟩
          · exact fun i σ H' _ ⟨r, _⟩ => SqL.of r.ls
          · rintro i2 x2 σ H7 hx2 ⟨R7, u4, u5, u6, u7, u10, u11, u12, rfl⟩
            obtain ⟨p2, q2, rfl, hq2, dy, hp2⟩ := R7.wl.at hx2
            obtain ⟨p', q', e', hq', dx, hp⟩ := R7.wl.at hx1
            cases e'
            rw [hq] at hq'
            cases hq'
            have n2 := R7.wn q2 (List.mem_of_getElem? hq2)
            have no : (wf q.1 q.2).lookup ("is_below" : Str) = none := wf_no _ _ (by decide +kernel) (by decide +kernel)
            refine ⟨_, rfl, p, C, dx, _, _, rfl, hp, T.cl, T.nT, wf_top _ _, _, rfl, p2, C, dy, _, _, rfl, hp2, T.cl, T.nB, wf_bottom _ _, _, _, rfl, rfl, n1.tz.mulOk n2.bz (by decide) (by decide) (by decide), ?_⟩
            refine ⟨_, rfl, p2, C, dy, _, _, rfl, hp2, T.cl, T.nT, wf_top _ _, _, rfl, p, C, dx, _, _, rfl, hp, T.cl, T.nB, wf_bottom _ _, _, _, rfl, rfl, n2.tz.mulOk n1.bz (by decide) (by decide) (by decide), _, _, rfl, rfl, ?_⟩
            refine ⟨_, rfl, p, dx, _, rfl, hp, no, _, rfl, p, p2, q.1, q.2, q2.1, q2.2, rfl, ⟨dx, hp⟩, ⟨dy, hp2⟩, n1.mono (by decide), n2.mono (by decide), _, rfl, _, rfl, _, rfl, rfl, _, rfl, ?_⟩
            refine iteNS rfl ?_
            exact ⟨R7, _, _, _, _, _, _, _, rfl⟩
          · rintro σ H7 ⟨R7, u4, u5, u6, u7, u10, u11, u12, rfl⟩
            obtain ⟨p', q', e', hq', dx, hp⟩ := R7.wl.at hx1
            cases e'
            rw [hq] at hq'
            cases hq'
            refine ⟨_, rfl, p, q.1, q.2, rfl, ⟨dx, hp⟩, n1.mono (by decide), true, rfl, iteF ⟨_, rfl, p, q.1, q.2, rfl, ⟨dx, hp⟩, n1.mono (by decide), fun H8 s8 => ⟨true, rfl, iteF ?_⟩⟩⟩
            exact ⟨R7.grow s8, _, _, _, _, _, _, _, _, rfl⟩
        · rintro σ H6 ⟨R6, u4, u5, u6, u7, u9, u10, u11, u12, rfl⟩
          refine ⟨_, rfl, l, xs, ps, rfl, SqL.of R6.ls, R6.wl, l8, R6.wn, fun p H8 s8 hp0 hp => ⟨p, _, rfl, SqT.of hp, rfl, _, _, rfl, _, _, rfl, rfl, ?_⟩⟩
          have R8 := R6.grow s8
          have ns := sum_n R8.wn ps.length (Nat.le_refl _)
          rw [List.take_length] at ns
          have ns8 : Wn 8000 (sumQ ps).1 (sumQ ps).2 := ns.mono (by omega)
          refine ⟨_, rfl, l, xs, rfl, .inl ⟨SqL.of R8.ls, fun t1 h1 => ?_⟩⟩
          have g1 : Same H8 (upd H8 t1 (.tup xs)) := fun y o e => by rw [upd_ne (ne_of_none e h1)]; exact e
          refine ⟨_, rfl, l, xs, rfl, SqL.of (g1 _ _ R8.ls), fun rl hrl => ?_⟩
          have g2 : Same (upd H8 t1 (.tup xs)) (upd (upd H8 t1 (.tup xs)) rl (.lst xs.reverse)) := fun y o e => by rw [upd_ne (ne_of_none e hrl)]; exact e
          refine ⟨rl, _, rfl, .inl ⟨SqL.of upd_same, fun t2 h2 => ?_⟩⟩
          have g3 : Same (upd (upd H8 t1 (.tup xs)) rl (.lst xs.reverse)) (upd (upd (upd H8 t1 (.tup xs)) rl (.lst xs.reverse)) t2 (.tup xs.reverse)) := fun y o e => by rw [upd_ne (ne_of_none e h2)]; exact e
          refine ⟨_, rfl, l, xs, rfl, .inl ⟨SqL.of (g3 _ _ (g2 _ _ (g1 _ _ R8.ls))), fun t3 h3' => ?_⟩⟩
          have g4 : Same (upd (upd (upd H8 t1 (.tup xs)) rl (.lst xs.reverse)) t2 (.tup xs.reverse)) (upd (upd (upd (upd H8 t1 (.tup xs)) rl (.lst xs.reverse)) t2 (.tup xs.reverse)) t3 (.tup xs)) := fun y o e => by rw [upd_ne (ne_of_none e h3')]; exact e
          refine ⟨(by show 3 ≤ sizeLine; decide), fun rr hrr => ?_⟩
          have g5 : Same (upd (upd (upd (upd H8 t1 (.tup xs)) rl (.lst xs.reverse)) t2 (.tup xs.reverse)) t3 (.tup xs)) (upd (upd (upd (upd (upd H8 t1 (.tup xs)) rl (.lst xs.reverse)) t2 (.tup xs.reverse)) t3 (.tup xs)) rr (.lst [.ref t1, .ref t2, .ref t3])) := fun y o e => by rw [upd_ne (ne_of_none e hrr)]; exact e
          have k1 := g5 _ _ (g4 _ _ (g3 _ _ (g2 _ _ (upd_same (H := H8) (a := t1) (o := .tup xs)))))
          have k2 := g5 _ _ (g4 _ _ (upd_same (H := upd (upd H8 t1 (.tup xs)) rl (.lst xs.reverse)) (a := t2) (o := .tup xs.reverse)))
          have k3 := g5 _ _ (upd_same (H := upd (upd (upd H8 t1 (.tup xs)) rl (.lst xs.reverse)) t2 (.tup xs.reverse)) (a := t3) (o := .tup xs))
          have k4 : (upd (upd (upd (upd (upd H8 t1 (.tup xs)) rl (.lst xs.reverse)) t2 (.tup xs.reverse)) t3 (.tup xs)) rr (.lst [.ref t1, .ref t2, .ref t3])) rr = some (.lst [.ref t1, .ref t2, .ref t3]) := upd_same
          have R9 := ((((R8.grow g1).grow g2).grow g3).grow g4).grow g5
          generalize upd (upd (upd (upd (upd H8 t1 (.tup xs)) rl (.lst xs.reverse)) t2 (.tup xs.reverse)) t3 (.tup xs)) rr (.lst [.ref t1, .ref t2, .ref t3]) = H9 at *
          refine ⟨rr, rfl, ⟨_, SqL.of k4⟩, for_list (K := K) (a := rr) (xs := [.ref t1, .ref t2, .ref t3]) (fun i σ H' => Same H9 H' ∧ ∃ u4 u5 u9 u10 u11 u12, σ = [some (.ref a), some (.int z), some (.ref d), some (.ref l), u4, u5, some (.int (sumQ ps).1), some (.int (sumQ ps).2), some (.str (rowT ps)), u9, u10, u11, u12]) ?_ ?_ ?_ ?_⟩
          · exact ⟨Same.refl _, u4, u5, u9, u10, u11, u12, rfl⟩
          · exact fun i σ H' _ ⟨e, _⟩ => e.seq (SqL.of k4)
          · rintro i3 x σ H10 hx ⟨s10, u4, u5, u9, u10, u11, u12, rfl⟩
            obtain ⟨t, xs', ps', rfl, hSq, hW, hl', hn', hsum⟩ : ∃ t xs' ps', x = .ref t ∧ SqT K H10 t xs' ∧ WL C H10 xs' ps' ∧ ps'.length ≤ 8 ∧ (∀ q ∈ ps', Wn 100 q.1 q.2) ∧ sumQ ps' = sumQ ps := by
              have W := R9.wl.same s10
              match i3, hx with
              | 0, hx => cases hx; exact ⟨t1, xs, ps, rfl, SqT.of (s10 _ _ k1), W, l8, R9.wn, rfl⟩
              | 1, hx => cases hx; exact ⟨t2, xs.reverse, ps.reverse, rfl, SqT.of (s10 _ _ k2), W.rev, by rw [List.length_reverse]; exact l8, fun q hq => R9.wn q (List.mem_reverse.mp hq), sumQ_rev ps⟩
              | 2, hx => cases hx; exact ⟨t3, xs, ps, rfl, SqT.of (s10 _ _ k3), W, l8, R9.wn, rfl⟩
            refine ⟨_, rfl, t, xs', ps', rfl, hSq, hW, hl', hn', fun x H11 s11 hx11 => ?_⟩
            rw [hsum] at hx11
            refine ⟨_, rfl, _, rfl, x, _, _, rfl, ns8.t0, ns8.b0, ns8.bz, hx11, fun H12 s12 => ⟨true, rfl, iteF ?_⟩⟩
            exact ⟨(s10.trans s11).trans s12, _, _, _, _, _, _, rfl⟩
          · rintro σ H10 ⟨s10, u4, u5, u9, u10, u11, u12, rfl⟩
            have R10 := R9.grow s10
            refine ⟨_, rfl, .ref l, rowT ps, [l], rfl, says_row GR rs rf bR R10.ls R10.wl R10.wn, rowT_len l8 R10.wn, fun H12 s12 => ⟨_, rfl, rfl, _, rfl, iteNS rfl ?_⟩⟩
            exact ⟨(R10.grow s12).s0, _, _, _, _, _, _, _, _, _, _, _, _, rfl⟩
    · rintro σ H' ⟨e0, v1, v2, v3, v4, v5, v6, v7, v8, v9, v10, v11, v12, rfl⟩
      have l0 : lowT 0 1 = 0 := by decide +kernel
      have l1 : lowB 0 1 = 1 := by decide +kernel
      have z1 : Sz 8000 1 := o1.mono (by decide)
      refine ⟨Nat.zero_le _, fun p hp => ⟨p, [], [], rfl, SqT.of upd_same, ⟨rfl, fun i q hq => by simp at hq⟩, by decide, (fun q hq => by simp at hq), fun x H1 s1 hx => ⟨x, 0, 1, rfl, by decide, by decide, z1, hx, fun H2 s2 => ⟨true, rfl, iteT ?_⟩⟩⟩⟩
      intro y dy ny ndy ne
      have no1 : (wf (lowT 0 1) (lowB 0 1)).lookup ("is_nought" : Str) = none := wf_no _ _ (by decide +kernel) (by decide +kernel)
      have no2 : (wf (lowT 0 1) (lowB 0 1)).lookup ("whole_up" : Str) = none := wf_no _ _ (by decide +kernel) (by decide +kernel)
      refine ⟨y, dy, 0, 1, rfl, upd_same, by decide, by decide, z1, rfl, y, dy, _, rfl, upd_same, no1, y, _, _, rfl, ⟨dy, upd_same⟩, _, _, rfl, rfl, _, rfl, ?_⟩
      have q0 : decide (decide (V.int (0 / ((Int.gcd 0 1 : Nat) : Int)) = V.int 0) = true) = true := by decide +kernel
      rw [q0]
      refine iteT ?_
      intro u du nu ndu neu
      refine ⟨u, du, 0, 1, rfl, upd_same, by decide, by decide, z1, rfl, u, du, _, rfl, upd_same, no2, u, _, _, rfl, ⟨du, upd_same⟩, ?_, rfl, ?_⟩
      · show Wn 4000 (lowT 0 1) (lowB 0 1)
        rw [l0, l1]
        exact ⟨by decide, by decide, (show Sz 1 0 by unfold Sz; decide).mono (by decide), o1.mono (by decide)⟩
      · have e : decide (V.int ((lowT 0 1 + lowB 0 1 - 1) / lowB 0 1) = V.int 0) = true := by
          rw [l0, l1]; rfl
        show Q (.bl (decide (V.int ((lowT 0 1 + lowB 0 1 - 1) / lowB 0 1) = V.int 0))) _
        rw [e]
        exact k _
end
end K
namespace K
open PySem L2 Rp
theorem bindsI {K : PySem.W.Frag} {f : Addr} {fd : FuncData} (F : FunI K f fd) : Binds K fd ["self", "top", "bottom"] [] := by
  obtain ⟨ds, v, b⟩ := F.binds1 (ps := ["self", "top", "bottom"]) 3 1 (by simp) rfl fun T kV dc pm an cd ct us its hu hi => match us, its, hu, hi with | [_, _, _], [_], _, _ => ⟨_, rfl, rfl⟩
  cases v
  exact b
theorem bindsI1 {K : PySem.W.Frag} {f : Addr} {fd : FuncData} (F : FunI K f fd) : ∃ ds, Vals [V.int 1] ds ∧ Binds K fd ["self", "top", "bottom"] ds := by
  obtain ⟨ds, v, b⟩ := F.binds1 (ps := ["self", "top", "bottom"]) 2 0 (by simp) rfl fun T kV dc pm an cd ct us its hu hi => match us, its, hu, hi with | [_, _], [_], _, _ => ⟨_, rfl, rfl⟩
  exact ⟨ds, v, b⟩
theorem all_mk {l : PySem.W.OpenLaw} {w : World} {K : PySem.W.Frag} {h : Heap} {mg : Str → Option Value} {fa C fI fR fP fB fN fU fSh fW fTo fDk fDr fLW fDv fTw fLo fIs fAl fNe fSu fLaw : Addr} (X : K.In h) (G : h.Ns mainGlobals mg) (hfa : mg "law" = some (.ref fa))
    {odI anI : Option Addr} {slI : Array (Option Value)} {ocI kVI dcI pmI cdI ctI : Value}
    {odR anR : Option Addr} {slR : Array (Option Value)} {ocR kVR dcR pmR cdR ctR : Value}
    {odP anP : Option Addr} {slP : Array (Option Value)} {ocP kVP dcP pmP cdP ctP : Value}
    {odB anB : Option Addr} {slB : Array (Option Value)} {ocB kVB dcB pmB cdB ctB : Value}
    {odN anN : Option Addr} {slN : Array (Option Value)} {ocN kVN dcN pmN cdN ctN : Value}
    {odU anU : Option Addr} {slU : Array (Option Value)} {ocU kVU dcU pmU cdU ctU : Value}
    {ocT : Value} {odT : Option Addr} {nT : Nat} {slT : Array (Option Value)} {tkT : Tok} {TI : Addr}
    {odSh anSh : Option Addr} {slSh : Array (Option Value)} {ocSh kVSh dcSh pmSh cdSh ctSh : Value}
    {odW anW : Option Addr} {slW : Array (Option Value)} {ocW kVW dcW pmW cdW ctW : Value}
    {odTo anTo : Option Addr} {slTo : Array (Option Value)} {ocTo kVTo dcTo pmTo cdTo ctTo : Value}
    {odDk anDk : Option Addr} {slDk : Array (Option Value)} {ocDk kVDk dcDk pmDk cdDk ctDk : Value}
    {odDr anDr : Option Addr} {slDr : Array (Option Value)} {ocDr kVDr dcDr pmDr cdDr ctDr : Value}
    {odLW anLW : Option Addr} {slLW : Array (Option Value)} {ocLW kVLW dcLW pmLW cdLW ctLW : Value}
    {odDv anDv : Option Addr} {slDv : Array (Option Value)} {ocDv kVDv dcDv pmDv cdDv ctDv : Value}
    {odTw anTw : Option Addr} {slTw : Array (Option Value)} {ocTw kVTw dcTw pmTw cdTw ctTw : Value}
    {odLo anLo : Option Addr} {slLo : Array (Option Value)} {ocLo kVLo dcLo pmLo cdLo ctLo : Value}
    {odIs anIs : Option Addr} {slIs : Array (Option Value)} {ocIs kVIs dcIs pmIs cdIs ctIs : Value}
    {odAl anAl : Option Addr} {slAl : Array (Option Value)} {ocAl kVAl dcAl pmAl cdAl ctAl : Value}
    {odNe anNe : Option Addr} {slNe : Array (Option Value)} {ocNe kVNe dcNe pmNe cdNe ctNe : Value}
    {odSu anSu : Option Addr} {slSu : Array (Option Value)} {ocSu kVSu dcSu pmSu cdSu ctSu : Value}
    {odLaw anLaw : Option Addr} {slLaw : Array (Option Value)} {ocLaw kVLaw dcLaw pmLaw cdLaw ctLaw : Value}
    {zB : Int} {tB : Tok}
    (aC : PySem.W.nsIn K mainGlobals "Weight" = some (some (.ref C)))
    (aI : PySem.W.findIn K (.ref C) "__init__" = some (some (.ref fI)))
    (iI : PySem.W.isFn K (.ref fI) = true)
    (lI : K.lookup fI = some ⟨ocI, odI, .func (PySem.W.fnOf "__init__" "Weight.__init__" (defArgs sInit) (defBody sInit) (defScope sInit) (.ref TI) kVI dcI pmI anI cdI ctI), slI⟩)
    (cI : PySem.W.codeIn K cdI "Weight.__init__" = true)
    (kI : PySem.W.keepIn K (.ref fI) = true)
    (aR : PySem.W.findIn K (.ref C) "__repr__" = some (some (.ref fR)))
    (iR : PySem.W.isFn K (.ref fR) = true)
    (lR : K.lookup fR = some ⟨ocR, odR, .func (PySem.W.fnOf "__repr__" "Weight.__repr__" (defArgs sRepr) (defBody sRepr) (defScope sRepr) .none kVR dcR pmR anR cdR ctR), slR⟩)
    (cR : PySem.W.codeIn K cdR "Weight.__repr__" = true)
    (kR : PySem.W.keepIn K (.ref fR) = true)
    (aP : PySem.W.findIn K (.ref C) "plus" = some (some (.ref fP)))
    (iP : PySem.W.isFn K (.ref fP) = true)
    (lP : K.lookup fP = some ⟨ocP, odP, .func (PySem.W.fnOf "plus" "Weight.plus" (defArgs sPlus) (defBody sPlus) (defScope sPlus) .none kVP dcP pmP anP cdP ctP), slP⟩)
    (cP : PySem.W.codeIn K cdP "Weight.plus" = true)
    (kP : PySem.W.keepIn K (.ref fP) = true)
    (aB : PySem.W.findIn K (.ref C) "is_below" = some (some (.ref fB)))
    (iB : PySem.W.isFn K (.ref fB) = true)
    (lB : K.lookup fB = some ⟨ocB, odB, .func (PySem.W.fnOf "is_below" "Weight.is_below" (defArgs sBelow) (defBody sBelow) (defScope sBelow) .none kVB dcB pmB anB cdB ctB), slB⟩)
    (cB : PySem.W.codeIn K cdB "Weight.is_below" = true)
    (kB : PySem.W.keepIn K (.ref fB) = true)
    (aN : PySem.W.findIn K (.ref C) "is_nought" = some (some (.ref fN)))
    (iN : PySem.W.isFn K (.ref fN) = true)
    (lN : K.lookup fN = some ⟨ocN, odN, .func (PySem.W.fnOf "is_nought" "Weight.is_nought" (defArgs sNought) (defBody sNought) (defScope sNought) .none kVN dcN pmN anN cdN ctN), slN⟩)
    (cN : PySem.W.codeIn K cdN "Weight.is_nought" = true)
    (kN : PySem.W.keepIn K (.ref fN) = true)
    (aU : PySem.W.findIn K (.ref C) "whole_up" = some (some (.ref fU)))
    (iU : PySem.W.isFn K (.ref fU) = true)
    (lU : K.lookup fU = some ⟨ocU, odU, .func (PySem.W.fnOf "whole_up" "Weight.whole_up" (defArgs sUp) (defBody sUp) (defScope sUp) .none kVU dcU pmU anU cdU ctU), slU⟩)
    (cU : PySem.W.codeIn K cdU "Weight.whole_up" = true)
    (kU : PySem.W.keepIn K (.ref fU) = true)
    (lT : K.lookup TI = some ⟨ocT, odT, .seq ([Value.int 1 tkT] : List Value).toArray nT, slT⟩)
    (aSh : PySem.W.nsIn K mainGlobals "show_whole" = some (some (.ref fSh)))
    (lSh : K.lookup fSh = some ⟨ocSh, odSh, .func (PySem.W.fnOf "show_whole" "show_whole" (defArgs sShow) (defBody sShow) (defScope sShow) .none kVSh dcSh pmSh anSh cdSh ctSh), slSh⟩)
    (cSh : PySem.W.codeIn K cdSh "show_whole" = true)
    (kSh : PySem.W.keepIn K (.ref fSh) = true)
    (aW : PySem.W.nsIn K mainGlobals "is_whole" = some (some (.ref fW)))
    (lW : K.lookup fW = some ⟨ocW, odW, .func (PySem.W.fnOf "is_whole" "is_whole" (defArgs sWhole) (defBody sWhole) (defScope sWhole) .none kVW dcW pmW anW cdW ctW), slW⟩)
    (cW : PySem.W.codeIn K cdW "is_whole" = true)
    (kW : PySem.W.keepIn K (.ref fW) = true)
    (aTo : PySem.W.nsIn K mainGlobals "total" = some (some (.ref fTo)))
    (lTo : K.lookup fTo = some ⟨ocTo, odTo, .func (PySem.W.fnOf "total" "total" (defArgs sTotal) (defBody sTotal) (defScope sTotal) .none kVTo dcTo pmTo anTo cdTo ctTo), slTo⟩)
    (cTo : PySem.W.codeIn K cdTo "total" = true)
    (kTo : PySem.W.keepIn K (.ref fTo) = true)
    (aDk : PySem.W.nsIn K mainGlobals "_law_deck" = some (some (.ref fDk)))
    (lDk : K.lookup fDk = some ⟨ocDk, odDk, .func (PySem.W.fnOf "_law_deck" "_law_deck" (defArgs sDeck) (defBody sDeck) (defScope sDeck) .none kVDk dcDk pmDk anDk cdDk ctDk), slDk⟩)
    (cDk : PySem.W.codeIn K cdDk "_law_deck" = true)
    (kDk : PySem.W.keepIn K (.ref fDk) = true)
    (aDr : PySem.W.nsIn K mainGlobals "_law_draw" = some (some (.ref fDr)))
    (lDr : K.lookup fDr = some ⟨ocDr, odDr, .func (PySem.W.fnOf "_law_draw" "_law_draw" (defArgs sDraw) (defBody sDraw) (defScope sDraw) .none kVDr dcDr pmDr anDr cdDr ctDr), slDr⟩)
    (cDr : PySem.W.codeIn K cdDr "_law_draw" = true)
    (kDr : PySem.W.keepIn K (.ref fDr) = true)
    (aLW : PySem.W.nsIn K mainGlobals "_law_whole" = some (some (.ref fLW)))
    (lLW : K.lookup fLW = some ⟨ocLW, odLW, .func (PySem.W.fnOf "_law_whole" "_law_whole" (defArgs sLWhole) (defBody sLWhole) (defScope sLWhole) .none kVLW dcLW pmLW anLW cdLW ctLW), slLW⟩)
    (cLW : PySem.W.codeIn K cdLW "_law_whole" = true)
    (kLW : PySem.W.keepIn K (.ref fLW) = true)
    (aDv : PySem.W.nsIn K mainGlobals "_law_divides" = some (some (.ref fDv)))
    (lDv : K.lookup fDv = some ⟨ocDv, odDv, .func (PySem.W.fnOf "_law_divides" "_law_divides" (defArgs sDiv) (defBody sDiv) (defScope sDiv) .none kVDv dcDv pmDv anDv cdDv ctDv), slDv⟩)
    (cDv : PySem.W.codeIn K cdDv "_law_divides" = true)
    (kDv : PySem.W.keepIn K (.ref fDv) = true)
    (aTw : PySem.W.nsIn K mainGlobals "_law_two" = some (some (.ref fTw)))
    (lTw : K.lookup fTw = some ⟨ocTw, odTw, .func (PySem.W.fnOf "_law_two" "_law_two" (defArgs sTwo) (defBody sTwo) (defScope sTwo) .none kVTw dcTw pmTw anTw cdTw ctTw), slTw⟩)
    (cTw : PySem.W.codeIn K cdTw "_law_two" = true)
    (kTw : PySem.W.keepIn K (.ref fTw) = true)
    (aLo : PySem.W.nsIn K mainGlobals "_law_lowest" = some (some (.ref fLo)))
    (lLo : K.lookup fLo = some ⟨ocLo, odLo, .func (PySem.W.fnOf "_law_lowest" "_law_lowest" (defArgs sLow) (defBody sLow) (defScope sLow) .none kVLo dcLo pmLo anLo cdLo ctLo), slLo⟩)
    (cLo : PySem.W.codeIn K cdLo "_law_lowest" = true)
    (kLo : PySem.W.keepIn K (.ref fLo) = true)
    (aIs : PySem.W.nsIn K mainGlobals "_law_is" = some (some (.ref fIs)))
    (lIs : K.lookup fIs = some ⟨ocIs, odIs, .func (PySem.W.fnOf "_law_is" "_law_is" (defArgs sIs) (defBody sIs) (defScope sIs) .none kVIs dcIs pmIs anIs cdIs ctIs), slIs⟩)
    (cIs : PySem.W.codeIn K cdIs "_law_is" = true)
    (kIs : PySem.W.keepIn K (.ref fIs) = true)
    (aAl : PySem.W.nsIn K mainGlobals "_law_alone_right" = some (some (.ref fAl)))
    (lAl : K.lookup fAl = some ⟨ocAl, odAl, .func (PySem.W.fnOf "_law_alone_right" "_law_alone_right" (defArgs sAlone) (defBody sAlone) (defScope sAlone) .none kVAl dcAl pmAl anAl cdAl ctAl), slAl⟩)
    (cAl : PySem.W.codeIn K cdAl "_law_alone_right" = true)
    (kAl : PySem.W.keepIn K (.ref fAl) = true)
    (aNe : PySem.W.nsIn K mainGlobals "_law_near_right" = some (some (.ref fNe)))
    (lNe : K.lookup fNe = some ⟨ocNe, odNe, .func (PySem.W.fnOf "_law_near_right" "_law_near_right" (defArgs sNear) (defBody sNear) (defScope sNear) .none kVNe dcNe pmNe anNe cdNe ctNe), slNe⟩)
    (cNe : PySem.W.codeIn K cdNe "_law_near_right" = true)
    (kNe : PySem.W.keepIn K (.ref fNe) = true)
    (aSu : PySem.W.nsIn K mainGlobals "_law_sum" = some (some (.ref fSu)))
    (lSu : K.lookup fSu = some ⟨ocSu, odSu, .func (PySem.W.fnOf "_law_sum" "_law_sum" (defArgs sSum) (defBody sSum) (defScope sSum) .none kVSu dcSu pmSu anSu cdSu ctSu), slSu⟩)
    (cSu : PySem.W.codeIn K cdSu "_law_sum" = true)
    (kSu : PySem.W.keepIn K (.ref fSu) = true)
    (aLaw : PySem.W.nsIn K mainGlobals "law" = some (some (.ref fLaw)))
    (lLaw : K.lookup fLaw = some ⟨ocLaw, odLaw, .func (PySem.W.fnOf "law" "law" (defArgs sLaw) (defBody sLaw) (defScope sLaw) .none kVLaw dcLaw pmLaw anLaw cdLaw ctLaw), slLaw⟩)
    (cLaw : PySem.W.codeIn K cdLaw "law" = true)
    (kLaw : PySem.W.keepIn K (.ref fLaw) = true)
    (pg : PySem.W.plainGet K C Str.empty = true)
    (hd : PySem.W.hasDictIn K C = true)
    (po : PySem.W.plainOver K C = true)
    (sa : PySem.W.findIn K (.ref C) "__setattr__" = some (some (.builtin "object.__setattr__")))
    (mk : PySem.W.makesIn K C = true)
    (kc : PySem.W.keepIn K (.ref C) = true)
    (nT' : PySem.W.findIn K (.ref C) "top" = some none)
    (nB' : PySem.W.findIn K (.ref C) "bottom" = some none)
    (wa : PySem.W.findIn K (.ref C) "__class__" = some (some (.builtin "object.__class__")))
    (wn : PySem.W.specialIn K (.builtin "object.__class__") "__get__" = some (some (.builtin "getset_descriptor.__get__")))
    (wt : PySem.W.takesIn K (.builtin "object.__class__") = some true)
    (wm : PySem.W.mroIn K C (.type "object") = some true)
    (gcd : PySem.W.nsIn K mainGlobals "gcd" = some (some (.builtin "math.gcd")))
    (blk : PySem.W.nsIn K mainGlobals "BLOCK" = some (some (.int zB tB)))
    (big : (2 : Int) ^ 1600 ≤ zB)
    (z_isinstance : PySem.W.nsIn K mainGlobals "isinstance" = some none)
    (z_int : PySem.W.nsIn K mainGlobals "int" = some none)
    (z_bool : PySem.W.nsIn K mainGlobals "bool" = some none)
    (z_abs : PySem.W.nsIn K mainGlobals "abs" = some none)
    (z_max : PySem.W.nsIn K mainGlobals "max" = some none)
    (z_range : PySem.W.nsIn K mainGlobals "range" = some none)
    (z_str : PySem.W.nsIn K mainGlobals "str" = some none)
    (z_reversed : PySem.W.nsIn K mainGlobals "reversed" = some none)
    (z_repr : PySem.W.nsIn K mainGlobals "repr" = some none)
    (z_tuple : PySem.W.nsIn K mainGlobals "tuple" = some none) :
    ∃ fd : FuncData, (∀ (s : Shared) (v : Value), BindsTo s fd ⟨[v], []⟩ [("_law_script", v)]) ∧ ∀ base : Heap, K.In base → base.Ns mainGlobals mg → FnG l.prog w K mg base CX0 6 fa fd ["_law_script"] (spLaw K) := by
  have e := hfa.symm.trans (PySem.W.mg_of X G aLaw)
  cases e
  have T : WTxt K mg C fW := ⟨⟨pg, hd, po, sa⟩, nT', nB', PySem.W.mg_of X G aC, PySem.W.mg_of X G aW, kW, PySem.W.mg_of X G gcd⟩
  have N : WIns K C := ⟨wa, wn, wt, wm⟩
  have B : Blt mg := ⟨PySem.W.mg_none_of X G z_isinstance, PySem.W.mg_none_of X G z_int, PySem.W.mg_none_of X G z_bool⟩
  have B2 : Blt2 mg := ⟨PySem.W.mg_none_of X G z_max, PySem.W.mg_none_of X G z_range, PySem.W.mg_none_of X G z_repr, PySem.W.mg_none_of X G z_tuple⟩
  have FI : FunI K fI _ := ⟨⟨_, _, _, _, _, _, _, _, _, _, rfl, lI, cI, .inr ⟨by simp, TI, _, [Value.int 1 tkT], _, rfl, lT, rfl, .cons ⟨_, rfl⟩ .nil⟩, .inl rfl⟩, kI⟩
  have FR := fun_mk (st := sRepr) lR cR kR
  have mR : Me K C "__repr__" fR _ _ := ⟨⟨aR, iR, kR⟩, FR.binds (ps := ["self"]) fun _ _ _ _ _ _ us hl => match us, hl with | [_], _ => rfl⟩
  have FP := fun_mk (st := sPlus) lP cP kP
  have mP : Me K C "plus" fP _ _ := ⟨⟨aP, iP, kP⟩, FP.binds (ps := ["self", "other"]) fun _ _ _ _ _ _ us hl => match us, hl with | [_, _], _ => rfl⟩
  have FB := fun_mk (st := sBelow) lB cB kB
  have mB : Me K C "is_below" fB _ _ := ⟨⟨aB, iB, kB⟩, FB.binds (ps := ["self", "other"]) fun _ _ _ _ _ _ us hl => match us, hl with | [_, _], _ => rfl⟩
  have FN := fun_mk (st := sNought) lN cN kN
  have mN : Me K C "is_nought" fN _ _ := ⟨⟨aN, iN, kN⟩, FN.binds (ps := ["self"]) fun _ _ _ _ _ _ us hl => match us, hl with | [_], _ => rfl⟩
  have FU := fun_mk (st := sUp) lU cU kU
  have mU : Me K C "whole_up" fU _ _ := ⟨⟨aU, iU, kU⟩, FU.binds (ps := ["self"]) fun _ _ _ _ _ _ us hl => match us, hl with | [_], _ => rfl⟩
  have FSh := fun_mk (st := sShow) lSh cSh kSh
  have qSh : Cl K mg "show_whole" fSh _ _ := ⟨PySem.W.mg_of X G aSh, kSh, FSh.binds (ps := ["number"]) fun _ _ _ _ _ _ us hl => match us, hl with | [_], _ => rfl⟩
  have FW := fun_mk (st := sWhole) lW cW kW
  have qW : Cl K mg "is_whole" fW _ _ := ⟨PySem.W.mg_of X G aW, kW, FW.binds (ps := ["thing"]) fun _ _ _ _ _ _ us hl => match us, hl with | [_], _ => rfl⟩
  have FTo := fun_mk (st := sTotal) lTo cTo kTo
  have qTo : Cl K mg "total" fTo _ _ := ⟨PySem.W.mg_of X G aTo, kTo, FTo.binds (ps := ["weights"]) fun _ _ _ _ _ _ us hl => match us, hl with | [_], _ => rfl⟩
  have FDk := fun_mk (st := sDeck) lDk cDk kDk
  have qDk : Cl K mg "_law_deck" fDk _ _ := ⟨PySem.W.mg_of X G aDk, kDk, FDk.binds (ps := ["_law_cell"]) fun _ _ _ _ _ _ us hl => match us, hl with | [_], _ => rfl⟩
  have FDr := fun_mk (st := sDraw) lDr cDr kDr
  have qDr : Cl K mg "_law_draw" fDr _ _ := ⟨PySem.W.mg_of X G aDr, kDr, FDr.binds (ps := ["_law_deck_here", "_law_most"]) fun _ _ _ _ _ _ us hl => match us, hl with | [_, _], _ => rfl⟩
  have FLW := fun_mk (st := sLWhole) lLW cLW kLW
  have qLW : Cl K mg "_law_whole" fLW _ _ := ⟨PySem.W.mg_of X G aLW, kLW, FLW.binds (ps := ["_law_thing"]) fun _ _ _ _ _ _ us hl => match us, hl with | [_], _ => rfl⟩
  have FDv := fun_mk (st := sDiv) lDv cDv kDv
  have qDv : Cl K mg "_law_divides" fDv _ _ := ⟨PySem.W.mg_of X G aDv, kDv, FDv.binds (ps := ["_law_one", "_law_other"]) fun _ _ _ _ _ _ us hl => match us, hl with | [_, _], _ => rfl⟩
  have FTw := fun_mk (st := sTwo) lTw cTw kTw
  have qTw : Cl K mg "_law_two" fTw _ _ := ⟨PySem.W.mg_of X G aTw, kTw, FTw.binds (ps := ["_law_deck_here"]) fun _ _ _ _ _ _ us hl => match us, hl with | [_], _ => rfl⟩
  have FLo := fun_mk (st := sLow) lLo cLo kLo
  have qLo : Cl K mg "_law_lowest" fLo _ _ := ⟨PySem.W.mg_of X G aLo, kLo, FLo.binds (ps := ["_law_top", "_law_bottom"]) fun _ _ _ _ _ _ us hl => match us, hl with | [_, _], _ => rfl⟩
  have FIs := fun_mk (st := sIs) lIs cIs kIs
  have qIs : Cl K mg "_law_is" fIs _ _ := ⟨PySem.W.mg_of X G aIs, kIs, FIs.binds (ps := ["_law_found", "_law_top", "_law_bottom"]) fun _ _ _ _ _ _ us hl => match us, hl with | [_, _, _], _ => rfl⟩
  have FAl := fun_mk (st := sAlone) lAl cAl kAl
  have qAl : Cl K mg "_law_alone_right" fAl _ _ := ⟨PySem.W.mg_of X G aAl, kAl, FAl.binds (ps := ["_law_one"]) fun _ _ _ _ _ _ us hl => match us, hl with | [_], _ => rfl⟩
  have FNe := fun_mk (st := sNear) lNe cNe kNe
  have qNe : Cl K mg "_law_near_right" fNe _ _ := ⟨PySem.W.mg_of X G aNe, kNe, FNe.binds (ps := ["_law_one"]) fun _ _ _ _ _ _ us hl => match us, hl with | [_], _ => rfl⟩
  have FSu := fun_mk (st := sSum) lSu cSu kSu
  have qSu : Cl K mg "_law_sum" fSu _ _ := ⟨PySem.W.mg_of X G aSu, kSu, FSu.binds (ps := ["_law_some"]) fun _ _ _ _ _ _ us hl => match us, hl with | [_], _ => rfl⟩
  have FLaw := fun_mk (st := sLaw) lLaw cLaw kLaw
  refine ⟨PySem.W.fnOf "law" "law" (defArgs sLaw) (defBody sLaw) (defScope sLaw) .none kVLaw dcLaw pmLaw anLaw cdLaw ctLaw, fun s v => .of_eq rfl, fun base _ _ => ?_⟩
  have M : Mk K C fI := ⟨mk, aI, iI, kc⟩
  have GW := ok_whole (P := l.prog) (w := w) (base := base) FW B
  have GLW := ok_lwhole (P := l.prog) (w := w) (base := base) FLW B
  have GI := ok_init FI T GW qW.b
  have GSh := ok_show (P := l.prog) (w := w) (mg := mg) (base := base) FSh (PySem.W.mg_none_of X G z_str) (PySem.W.mg_none_of X G z_reversed) (PySem.W.mg_of X G blk) big
  have GR := ok_repr FR T qSh GSh
  have GP := ok_plus FP T M GI (bindsI FI)
  have GB := ok_below (P := l.prog) (w := w) (base := base) FB T
  have GN := ok_nought (P := l.prog) (w := w) (base := base) FN T
  have GU := ok_up (P := l.prog) (w := w) (base := base) FU T
  obtain ⟨ds, vd, b1⟩ := bindsI1 FI
  have GTo := ok_total FTo T M GI vd b1 mP GP
  have GDk := ok_deck (P := l.prog) (w := w) (mg := mg) (base := base) FDk B
  have GDr := ok_draw (P := l.prog) (w := w) (mg := mg) (base := base) FDr
  have GDv := ok_div (P := l.prog) (w := w) (mg := mg) (base := base) FDv (PySem.W.mg_none_of X G z_abs)
  have GTw := ok_two FTw (PySem.W.mg_none_of X G z_max) (PySem.W.mg_none_of X G z_range) qDr GDr
  have GLo := ok_low FLo qDv GDv
  have GIs := ok_is FIs T B N qLW GLW qLo GLo
  have GAl := ok_alone FAl T (PySem.W.mg_none_of X G z_repr) mU GU mN GN qLW GLW
  have GNe := ok_near FNe T (PySem.W.mg_none_of X G z_repr) M GI (bindsI FI) mB GB
  have GSu := ok_sum (P := l.prog) (w := w) (base := base) FSu T
  exact ok_law FLaw ⟨⟨fW, fI, fR, fB, fN, fU, fDk, fDr, fTw, fIs, fAl, fNe, fSu, fTo, _, _, _, _, _, _, _, _, _, _, _, _, _, T, M, GI, bindsI FI, ⟨ds, vd, b1⟩, ⟨GR, aR, iR, mR.b⟩, ⟨mB, GB⟩, ⟨mN, GN⟩, ⟨mU, GU⟩, ⟨qDk, GDk⟩, ⟨qDr, GDr⟩, ⟨qTw, GTw⟩, ⟨qIs, GIs⟩, ⟨qAl, GAl⟩, ⟨qNe, GNe⟩, ⟨qSu, GSu⟩, ⟨qTo, GTo⟩⟩⟩ B2
theorem walk {l : PySem.W.OpenLaw} {q : Program} {loose : List Str} {XP : (Str → Option Value) → Heap → Prop} {YP : World → Heap → Prop} {d : DefRec} {K : Params → PySem.W.Frag} (hn : l.most = some 63) (hdf : d.params.defaults = [])
    (hY : ∀ (w : World) (h : Heap), YP w h → (K w.params).In h)
    (F : ∀ (w : World) (mg : Str → Option Value) (fa : Addr) (h : Heap), (K w.params).In h → h.Ns mainGlobals mg → mg d.name = some (.ref fa) →
      ∃ fd : FuncData, (∀ (s : Shared) (u : Value), BindsTo s fd ⟨[u], []⟩ [("_law_script", u)]) ∧ ∀ base : Heap, (K w.params).In base → base.Ns mainGlobals mg → FnG l.prog w (K w.params) mg base CX0 6 fa fd ["_law_script"] (spLaw (K w.params))) :
    PySem.W.WalkO q loose XP YP l.row.toRowW d [] (fun f vs => PySem.call f vs) :=
  walk_ofG (n := 63) (k := 6) (x := "_law_script") (CX := fun _ => CX0) (sp := fun w => spLaw (K w.params)) hn (by decide) hdf ⟨rfl, by decide, by decide⟩ hY F (fun _ _ a ns hl _ hS => ⟨a, ns, rfl, hS, hl, fun _ => rfl⟩) fun _ _ _ _ _ z => z
end K
open PySem PySem.W PyProof.Rows
set_option maxRecDepth 100000 in
set_option maxHeartbeats 0 in
theorem PySem.Challenge.cw_casknotes_k06_below_nought_whole_up_tota_holds : PySem.Challenge.rw_casknotes_k06_below_nought_whole_up_tota.Holds := by
  w_on; o_law; k_head; (case hw => w_witness2)
  k_fill
  refine K.walk (l := PySem.Challenge.rw_casknotes_k06_below_nought_whole_up_tota) rfl rfl (fun w h Y => PySem.W.kIn_of Y) ?F
  case F =>
    intro w mg fa h KX G hmg
    refine' K.all_mk KX G hmg ?aC ?aI ?iI ?lI ?cI ?kI ?aR ?iR ?lR ?cR ?kR ?aP ?iP ?lP ?cP ?kP ?aB ?iB ?lB ?cB ?kB ?aN ?iN ?lN ?cN ?kN ?aU ?iU ?lU ?cU ?kU ?lT ?aSh ?lSh ?cSh ?kSh ?aW ?lW ?cW ?kW ?aTo ?lTo ?cTo ?kTo ?aDk ?lDk ?cDk ?kDk ?aDr ?lDr ?cDr ?kDr ?aLW ?lLW ?cLW ?kLW ?aDv ?lDv ?cDv ?kDv ?aTw ?lTw ?cTw ?kTw ?aLo ?lLo ?cLo ?kLo ?aIs ?lIs ?cIs ?kIs ?aAl ?lAl ?cAl ?kAl ?aNe ?lNe ?cNe ?kNe ?aSu ?lSu ?cSu ?kSu ?aLaw ?lLaw ?cLaw ?kLaw ?pg ?hd ?po ?sa ?mk ?kc ?nT_ ?nB_ ?wa ?wn ?wt ?wm ?gcd ?blk ?big ?z_isinstance ?z_int ?z_bool ?z_abs ?z_max ?z_range ?z_str ?z_reversed ?z_repr ?z_tuple
    (case aC => k_is)
    (case aI => k_is)
    (case iI => k_is)
    (case lI => k_is)
    (case cI => k_is)
    (case kI => k_is)
    (case aR => k_is)
    (case iR => k_is)
    (case lR => k_is)
    (case cR => k_is)
    (case kR => k_is)
    (case aP => k_is)
    (case iP => k_is)
    (case lP => k_is)
    (case cP => k_is)
    (case kP => k_is)
    (case aB => k_is)
    (case iB => k_is)
    (case lB => k_is)
    (case cB => k_is)
    (case kB => k_is)
    (case aN => k_is)
    (case iN => k_is)
    (case lN => k_is)
    (case cN => k_is)
    (case kN => k_is)
    (case aU => k_is)
    (case iU => k_is)
    (case lU => k_is)
    (case cU => k_is)
    (case kU => k_is)
    (case lT => k_is)
    (case aSh => k_is)
    (case lSh => k_is)
    (case cSh => k_is)
    (case kSh => k_is)
    (case aW => k_is)
    (case lW => k_is)
    (case cW => k_is)
    (case kW => k_is)
    (case aTo => k_is)
    (case lTo => k_is)
    (case cTo => k_is)
    (case kTo => k_is)
    (case aDk => k_is)
    (case lDk => k_is)
    (case cDk => k_is)
    (case kDk => k_is)
    (case aDr => k_is)
    (case lDr => k_is)
    (case cDr => k_is)
    (case kDr => k_is)
    (case aLW => k_is)
    (case lLW => k_is)
    (case cLW => k_is)
    (case kLW => k_is)
    (case aDv => k_is)
    (case lDv => k_is)
    (case cDv => k_is)
    (case kDv => k_is)
    (case aTw => k_is)
    (case lTw => k_is)
    (case cTw => k_is)
    (case kTw => k_is)
    (case aLo => k_is)
    (case lLo => k_is)
    (case cLo => k_is)
    (case kLo => k_is)
    (case aIs => k_is)
    (case lIs => k_is)
    (case cIs => k_is)
    (case kIs => k_is)
    (case aAl => k_is)
    (case lAl => k_is)
    (case cAl => k_is)
    (case kAl => k_is)
    (case aNe => k_is)
    (case lNe => k_is)
    (case cNe => k_is)
    (case kNe => k_is)
    (case aSu => k_is)
    (case lSu => k_is)
    (case cSu => k_is)
    (case kSu => k_is)
    (case aLaw => k_is)
    (case lLaw => k_is)
    (case cLaw => k_is)
    (case kLaw => k_is)
    (case pg => k_is)
    (case hd => k_is)
    (case po => k_is)
    (case sa => k_is)
    (case mk => k_is)
    (case kc => k_is)
    (case nT_ => k_is)
    (case nB_ => k_is)
    (case wa => k_is)
    (case wn => k_is)
    (case wt => k_is)
    (case wm => k_is)
    (case gcd => k_is)
    (case blk => k_is)
    (case big => decide +kernel)
    (case z_isinstance => k_is)
    (case z_int => k_is)
    (case z_bool => k_is)
    (case z_abs => k_is)
    (case z_max => k_is)
    (case z_range => k_is)
    (case z_str => k_is)
    (case z_reversed => k_is)
    (case z_repr => k_is)
    (case z_tuple => k_is)
