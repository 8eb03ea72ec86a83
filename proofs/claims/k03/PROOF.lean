import PyProof.Rows.All
import Wide.All
import OpenK.AllK
import Wide.FinOn
import HandS.ForMost
import HandS.Rev
import PyProof.JoinWalk
import HandS.Exc
import HandS.ExcOwn
import HandS.ExcIs
import HandS.ExcField
import HandS.ExcInit
import HandS.HotCalls
import HandS.WordsExc
import HandS.IsInst
import HandS.List
import KE.KExcIs
import PyProof.Rows.CountFlat
import PyProof.ReprDict
import HandS.Gcd
import HandS.Wide
import HandS.FStr
import HandS.StrMore
import HandS.Style
import HandS.NoneIn
import HandS.Defaults
import HandS.Spec
import HandS.Walk
import HandS.TupLe
import PySem.Challenge.RW_casknotes_k03_weights_made
set_option Elab.async false
set_option linter.all false
set_option maxRecDepth 100000
set_option maxHeartbeats 4000000
/-! repr of things, by the abstract heap: what is told of a value, beneath a running body whose guards are known -/
namespace Rp
open PySem PySem.Spec PyProof.Rows L2

/-- beneath X: room for n calls, X's frames, the guards that run -/
structure Low (X : Cx) (n : Nat) (g : List Code) (A : Around) : Prop where
  rm : Room n A
  fr : A.frames = X.A.frames
  gd : A.guards = some g
section
variable {X : Cx} {n m : Nat} {g : List Code} {A : Around} {a : Addr}
theorem Low.in1 (s : Low X (n + 1) g A) : Low X n g A.in1 := ⟨s.rm.in1, s.fr, s.gd⟩
theorem Low.mono (s : Low X n g A) (h : m ≤ n) : Low X m g A := ⟨s.rm.mono h, s.fr, s.gd⟩
theorem Low.guard {id : String} {v : Value} {us : List Value} (s : Low X (n + 1) g A)
    (hg : (Code.builtin id ⟨v :: us, []⟩).guards = [Code.builtin id ⟨v :: us, []⟩]) (hw : (Code.builtin id ⟨v :: us, []⟩).weight = 1) (hu : (Code.builtin id ⟨v :: us, []⟩).cUnits = 1)
    (he : (Code.builtin id ⟨v :: us, []⟩).envs = []) :
    Low X n (Code.builtin id ⟨v :: us, []⟩ :: g) (A.under (Code.builtin id ⟨v :: us, []⟩)) := by
  obtain ⟨⟨r1, r2, r3⟩, f, gd⟩ := s
  refine ⟨⟨r1, ?_, ?_⟩, ?_, ?_⟩
  · show A.depth + (Code.builtin id ⟨v :: us, []⟩).weight + 3 * n + 5 < _
    rw [hw]; omega
  · show A.units + (Code.builtin id ⟨v :: us, []⟩).cUnits + 16 * n + 200 < _
    rw [hu]; omega
  · show pushEnvs (Code.builtin id ⟨v :: us, []⟩).envs A.frames = _
    rw [he]; exact f
  · show pushGuards (Code.builtin id ⟨v :: us, []⟩).guards A.guards = _
    rw [hg, gd]; rfl
end

/-- what repr tells of v, at any heap grown from H -/
structure Says (X : Cx) (n : Nat) (as : List Addr) (H : Hp) (v : V) (t : Str) : Prop where
  und : ∀ (A : Around) (g : List Code) (base : Nat) (pins : List (Addr × Obj)) (s : Shared) (σ : L2.St) (H1 : Hp) (u : Value), Low X n g A → (∀ b ∈ as, Clear g b) → Inv X pins σ H1 s → Same H H1 → RelV v u → base + t.length ≤ sizeLine →
    wpAny (model X.prog X.w) A (pyReprUnder base u) (fun r s' => r = t ∧ ∃ H2, Inv X pins σ H2 s' ∧ Same H1 H2) X.xe s
  top : ∀ (A : Around) (g : List Code) (pins : List (Addr × Obj)) (s : Shared) (σ : L2.St) (H1 : Hp) (u : Value), Low X n g A → (∀ b ∈ as, Clear g b) → Inv X pins σ H1 s → Same H H1 → RelV v u → t.length ≤ sizeLine →
    wpAny (model X.prog X.w) A (call (.builtin "repr") [u]) (fun r s' => (∃ tk, r = .str t tk) ∧ ∃ H2, Inv X pins σ H2 s' ∧ Same H1 H2) X.xe s

section
variable {X : Cx} {n m : Nat} {as as' : List Addr} {H H' : Hp} {v : V} {t : Str} {a : Addr}
theorem Says.grow (h : Says X n as H v t) (e : Same H H') : Says X n as H' v t :=
  ⟨fun A g base pins s σ H1 u lo cl I x => h.und A g base pins s σ H1 u lo cl I (e.trans x), fun A g pins s σ H1 u lo cl I x => h.top A g pins s σ H1 u lo cl I (e.trans x)⟩
theorem Says.mono (h : Says X n as H v t) (hn : n ≤ m) (hs : ∀ b ∈ as, b ∈ as') : Says X m as' H v t :=
  ⟨fun A g base pins s σ H1 u lo cl => h.und A g base pins s σ H1 u (lo.mono hn) fun b hb => cl b (hs b hb), fun A g pins s σ H1 u lo cl => h.top A g pins s σ H1 u (lo.mono hn) fun b hb => cl b (hs b hb)⟩
theorem says_leaf (hi : ∀ u, RelV v u → ReprIs X.prog X.w u t) (ht : ∀ (A : Around) (E : Value → Shared → Prop) (s : Shared) (u : Value) (Q : Value → Shared → Prop), RelV v u → t.length ≤ sizeLine → Q (.str t s.toks) { s with toks := s.toks + 1 } → wpAny (model X.prog X.w) A (call (.builtin "repr") [u]) Q E s) :
    Says X 0 [] H v t :=
  ⟨fun A g base pins s σ H1 u _ _ I _ r hz => hi u r base hz A X.xe s _ fun tk => ⟨rfl, H1, I.tok tk, Same.refl H1⟩,
   fun A g pins s σ H1 u _ _ I _ r hz => ht A X.xe s u _ r hz ⟨⟨_, rfl⟩, H1, I.tok _, Same.refl H1⟩⟩
theorem says_bl (b : Bool) : Says X 0 [] H (.bl b) (if b then "True" else "False" : String) := by
  refine says_leaf (fun u r => ?_) fun A E s u Q r _ q => ?_
  · cases r
    have h := ReprIs.bool (prog := X.prog) (w := X.w) b
    cases b <;> exact h
  · cases r
    refine PySem.P.repr_of_bool ?_
    cases b <;> exact q
theorem says_non : Says X 0 [] H .non ("None" : String) := by
  refine says_leaf (fun u r => ?_) fun A E s u Q r _ q => ?_
  · cases r; exact ReprIs.none
  · cases r; exact PySem.P.repr_of_none q
theorem says_int {i : Int} (hi : i.natAbs.log2 < 1920) : Says X 0 [] H (.int i) (toString i) := by
  refine says_leaf (fun u r => ?_) fun A E s u Q r _ q => ?_
  · obtain ⟨tk, rfl⟩ := r; exact ReprIs.int tk hi
  · obtain ⟨tk, rfl⟩ := r; exact PySem.P.repr_of_int hi q
theorem says_str {x : Str} (hx : (reprText x).length ≤ sizeLine) : Says X 0 [] H (.str x) (reprText x) := by
  refine says_leaf (fun u r => ?_) fun A E s u Q r hz q => ?_
  · obtain ⟨tk, rfl⟩ := r; exact ReprIs.str x tk hx
  · obtain ⟨tk, rfl⟩ := r; exact PySem.P.repr_of_str q hz
end

/-! ### lists -/
section
variable {X : Cx} {n : Nat} {as : List Addr} {H : Hp} {a P : Addr} {xs : List V} {ts : List Str} {base : Nat} {g : List Code} {A : Around} {pins : List (Addr × Obj)} {σ : L2.St}
abbrev loopC (a P : Addr) (i k : Nat) : Code := .builtin "list.__repr__.loop" ⟨[.ref a, rawInt i, .ref P, rawInt (k : Int)], []⟩
theorem low_loop (lo : Low X (n + 1) g A) (i k : Nat) : Low X n (loopC a P i k :: g) (A.under (loopC a P i k)) :=
  lo.guard (by show (if Code.isGuard _ then _ else _) = _; rw [isGuard_list_loop]; rfl)
    (by simp only [Code.weight, isGuard_list_loop]; rfl)
    (by rfl) (by first | rfl | simp [Code.envs, Code.isFrame])
theorem lst_turns (lo : Low X (n + 1) g A) (hcl : ∀ b ∈ as, Clear g b) (hna : a ∉ as) (hit : ∀ (i : Nat) (x : V), xs[i]? = some x → ∃ t, ts[i]? = some t ∧ Says X n as H x t) (hl : ts.length = xs.length)
    (hsz : base + (listText ts).length ≤ sizeLine) (hq : SqL X.K H a xs) (haP : a ≠ P) {R : Result → Shared → Prop}
    (fin : ∀ s H2 u, Inv X pins σ H2 s → Same H H2 → R (.ok (.ret (.str (listText ts) u))) s) (bad : ∀ e s, X.xe e s → R (.error e) s) :
    ∀ (k i : Nat) (s : Shared) (H1 : Hp) (acc : Array Value) (c : Nat) (done : List (Str × Tok)), xs.length - i = k → i ≤ xs.length → Inv X pins σ H1 s → Same H H1 → FpOk X pins H1 P →
      s.heap.get? P = some { cls := .type "list", dict := none, data := .seq acc c, slots := #[] } → acc.toList = strValues done → done.map (·.1) = ts.take i →
      codeAny (model X.prog X.w) A (loopC a P i (base + piled (ts.take i))) R s := by
  have hL := textFrom_len ts 0 "["
  have hX : (listText ts).length = (textFrom 0 "[" ts).length + 1 := by
    unfold listText
    rw [strLen_append]; rfl
  have hsz0 : (listText ts).length ≤ sizeLine := by omega
  have small : ∀ t ∈ ts, t.length ≤ sizeLine := fun t ht => by
    have h2 := hL.2.1 t ht
    omega
  have hp3 := piled_le_listText ts
  have hn1 : xs.length ≤ sizeLine := by
    have h1 := hL.1
    rw [if_neg (Nat.lt_irrefl 0)] at h1
    omega
  intro k
  induction k with
  | zero =>
    intro i s H1 acc c done hk hi I hs fp hP hacc hdone
    have hin : i = xs.length := by omega
    obtain ⟨its, rv, pl, _⟩ := I.list (hs.seq hq)
    obtain ⟨oa, na, ho, _, _, hd⟩ := pl
    refine codeAny_builtin PySem.F.entry_list_repr_loop ?_
    show wpAny _ _ (Builtin.«list.__repr__.loop» ⟨[.ref a, .int i 0, .ref P, .int ((base + piled (ts.take i) : Nat) : Int) 0], []⟩) _ _ s
    rw [repr_loop_tree]
    refine wpAny_bind (wpAny_listItems ho hd ?_)
    have none_ : its.toArray[((i : Int)).toNat]? = none := by
      have := rv.length
      simp; omega
    simp only [none_]
    unfold reprEnd
    refine wpAny_bind (wpAny_listItems hP rfl ?_)
    rw [hacc, repr_fold]
    have hall : done.map (·.1) = ts := by rw [hdone, hin, ← hl, List.take_length]
    refine wpAny_bind (wpAny_pure ?_)
    rw [hall]
    exact wpAny_bind (wpAny_mkStr (wpAny_pure (fin _ H1 _ (I.tok _) hs)) hsz0)
  | succ k ih =>
    intro i s H1 acc c done hk hi I hs fp hP hacc hdone
    have hlt : i < xs.length := by omega
    obtain ⟨its, rv, pl, _⟩ := I.list (hs.seq hq)
    obtain ⟨oa, na, ho, _, _, hd⟩ := pl
    have hlt2 : i < its.length := by rw [← rv.length]; exact hlt
    obtain ⟨t, ht, hsay⟩ := hit i xs[i] (List.getElem?_eq_getElem hlt)
    obtain ⟨u, hu, ru⟩ := rv.get (List.getElem?_eq_getElem hlt)
    have hp1 := piled_take_succ ht
    have hp2 := piled_take_le ts (i + 1)
    refine codeAny_builtin PySem.F.entry_list_repr_loop ?_
    show wpAny _ _ (Builtin.«list.__repr__.loop» ⟨[.ref a, .int i 0, .ref P, .int ((base + piled (ts.take i) : Nat) : Int) 0], []⟩) _ _ s
    rw [repr_loop_tree]
    refine wpAny_bind (wpAny_listItems ho hd ?_)
    have some_ : its.toArray[i]? = some u := by simpa using hu
    simp only [Int.toNat_natCast, some_]
    obtain ⟨f0, f1, f2, f3, f4, f5⟩ := id fp
    have Ip : Inv X ((P, { cls := .type "list", dict := none, data := .seq acc c, slots := #[] }) :: pins) σ H1 s := I.pins_of fun p hp => by
      rcases List.mem_cons.mp hp with e | hp
      · rw [e]
        exact ⟨hP, f0, f1, f2, fun v z => by cases z⟩
      · exact I.pin p (List.mem_append_right _ hp)
    refine wpAny_bind (wpAny_holding (wpAny_mono (hsay.und (A.under (loopC a P i (base + piled (ts.take i)))) (loopC a P i (base + piled (ts.take i)) :: g) (base + piled (ts.take i) + 1) _ s σ H1 u (low_loop lo i _)
      (fun b hb => (hcl b hb).cons (a := a) fun e => hna (e ▸ hb)) Ip hs ru (by omega)) (fun r s2 hr => ?_) fun e s2 he => bad e s2 he))
    obtain ⟨er, H2, I2, e2⟩ := hr
    subst er
    obtain ⟨hP2, n2, _⟩ := I2.pin _ (List.mem_append_right _ List.mem_cons_self)
    have I3 : Inv X pins σ H2 s2 := I2.pins_of fun p hp => I2.pin p (List.mem_append_right _ (List.mem_cons_of_mem _ hp))
    refine wpAny_bind (wpAny_mkStr ?_ (small r (List.mem_of_getElem? ht)))
    refine wpAny_bind ?_
    show wpAny _ _ (updateSeq P _) _ _ _
    have hasz : acc.size ≤ sizeLine := by
      have e1 : acc.toList.length = acc.size := by simp
      have e3 : done.length = (ts.take i).length := by rw [← hdone, List.length_map]
      have e4 : (ts.take i).length ≤ i := by rw [List.length_take]; omega
      have e5 : (strValues done).length = done.length := by simp [strValues]
      rw [hacc] at e1; omega
    refine wpAny_updateSeq hP2 rfl (wpAny_pure ⟨PySem.F.quiet_list_repr_loop _, ?_⟩) hasz
    have e1 : ((i : Int) + 1) = ((i + 1 : Nat) : Int) := by omega
    have e3 : base + piled (ts.take i) + (r.length + 2) = base + piled (ts.take (i + 1)) := by omega
    rw [e1, e3]
    have fp2 : FpOk X pins H2 P := ⟨n2, f1, f2, f3, f4, f5⟩
    refine ih (i + 1) _ H2 (acc.push (.str r s2.toks)) _ (done ++ [(r, s2.toks)]) (by omega) hlt ((I3.tok (s2.toks + 1)).turned (t' := s2.toks + 1) (it := P) (fun b o hb e => ?_) n2 f1 f3 f4 f5) (hs.trans e2) fp2 (Heap.get?_update_self _ hP2 rfl) ?_ ?_
    · exact (Heap.get?_update_other _ _ (fun z : P = b => hb z.symm)).trans e
    · simp [hacc, strValues]
    · rw [List.map_append, hdone, List.take_add_one, ht]
      rfl

/-- the body of list.__repr__, of any base -/
theorem lst_body (lo : Low X (n + 1) g A) (hcl : ∀ b ∈ a :: as, Clear g b) (hna : a ∉ as) (hit : ∀ (i : Nat) (x : V), xs[i]? = some x → ∃ t, ts[i]? = some t ∧ Says X n as H x t) (hl : ts.length = xs.length)
    (hsz : base + (listText ts).length ≤ sizeLine) (hq : SqL X.K H a xs) {s : Shared} {H1 : Hp} (I : Inv X pins σ H1 s) (hs : Same H H1) {R : Result → Shared → Prop}
    (fin : ∀ s H2 u, Inv X pins σ H2 s → Same H1 H2 → R (.ok (.ret (.str (listText ts) u))) s) (bad : ∀ e s, X.xe e s → R (.error e) s) :
    wpAny (model X.prog X.w) A.in1 (Builtin.listReprAt base ⟨[.ref a], []⟩) (fun fin s' => match fin with | .done f => R (.ok f) s' | .again c' => c'.quiet = true ∧ codeAny (model X.prog X.w) A c' R s') (fun e s' => R (.error e) s') s := by
  obtain ⟨its, rv, pl, _⟩ := I.list (hs.seq hq)
  obtain ⟨oa, na, ho, hc, _, hd⟩ := id pl
  have hca : Clear g a := hcl a List.mem_cons_self
  cases its with
  | nil =>
    cases rv
    have e : ts = [] := List.length_eq_zero_iff.mp hl
    subst e
    refine wpAny_list_repr_empty ho hd ?_
    have q := fin _ H1 s.toks (I.tok (s.toks + 1)) (Same.refl H1)
    rw [listText_nil] at q
    exact q
  | cons y its =>
    refine wpAny_list_repr_head (A := A.in1) lo.gd (fun v rest kw hm => listSameRef_of_ne (hca _ _ _ _ hm)) ho hd ?_
    refine wpAny_bind (m := newList []) (wpAny_newObj_type ?_)
    refine wpAny_pure ⟨PySem.F.quiet_list_repr_loop _, ?_⟩
    have fp := I.fpOk (H' := H1) (Nat.le_refl _) (I.hok.fresh (Nat.le_refl _))
    have q := lst_turns (P := s.heap.objs.size) (R := R) lo (fun b hb => hcl b (List.mem_cons_of_mem _ hb)) hna (fun i x h => let ⟨t, h1, h2⟩ := hit i x h; ⟨t, h1, h2.grow hs⟩) hl hsz (hs.seq hq) (Nat.ne_of_lt (Heap.lt_size ho)) fin bad
      xs.length 0 { s with heap := s.heap.push { cls := .type "list", dict := none, data := .seq [].toArray } } H1 #[] _ [] rfl (Nat.zero_le _) (I.kept (t' := s.toks) fun b o e => Heap.get?_push_of_some _ e) (Same.refl H1) fp (Heap.get?_push_size _ rfl) rfl rfl
    rw [show base + piled (List.take 0 ts) = base by simp [piled]] at q
    exact q
theorem says_lst (hq : SqL X.K H a xs) (hna : a ∉ as) (hl : ts.length = xs.length) (hit : ∀ (i : Nat) (x : V), xs[i]? = some x → ∃ t, ts[i]? = some t ∧ Says X n as H x t) : Says X (n + 2) (a :: as) H (.ref a) (listText ts) := by
  refine ⟨fun A g base pins s σ H1 u lo cl I hs ru hz => ?_, fun A g pins s σ H1 u lo cl I hs ru hz => ?_⟩
  · cases ru
    obtain ⟨its, rv, ⟨oa, na, ho, hc, _, hd⟩, _⟩ := I.list (hs.seq hq)
    refine wpAny_pyReprUnder_ref (by omega) (wpAny_pyReprObjUnder_twin (twin := "list.__repr__.under") ⟨oa, ho, hc⟩ PySem.F.slot_list_repr.toG rfl lo.rm.units0
      (call_twin_plain PySem.F.plain_list_repr_under PySem.F.entry_list_repr_under PySem.F.check_list_repr_under ⟨oa, ho, hc⟩ PySem.F.slot_list_repr.toG (PySem.F.args_list_repr_1 _) ?_))
    exact lst_body (R := callEnd _ _) (lo.mono (by omega)) cl hna hit hl hz hq I hs (fun s2 H2 tk I2 e2 => ⟨⟨_, _, rfl⟩, _, _, rfl, rfl, H2, I2, e2⟩) fun e s2 he => he
  · cases ru
    obtain ⟨its, rv, ⟨oa, na, ho, hc, _, hd⟩, _⟩ := I.list (hs.seq hq)
    have h1 := lo.rm.units
    refine call_repr_slot (by omega) ⟨oa, ho, hc⟩ PySem.F.slot_list_repr.toG (wpAny_call (codeAny_call_builtin PySem.F.slot_list_repr.plain PySem.F.entry_list_repr (PySem.F.slot_list_repr.check _ _ _ _ _ _ _ _ ⟨oa, ho, hc⟩ (PySem.F.args_list_repr_1 _) ?_)))
    exact lst_body (A := A.in1) (base := 0) (R := callEnd _ _) lo.in1 cl hna hit hl (by omega) hq I hs (fun s2 H2 tk I2 e2 => ⟨_, _, rfl, ⟨_, rfl⟩, H2, I2, e2⟩) fun e s2 he => he
end

/-! ### instances of an own class with an own __repr__ -/
section
variable {X : Cx} {n : Nat} {H : Hp} {a C dx f : Addr} {fs : List (Str × V)} {fd : FuncData} {ps : List Str} {sp : Sp} {CX : CXT} {E : XK} {t : Str} {g : List Code} {A : Around} {pins : List (Addr × Obj)} {σ : L2.St} {s : Shared}
/-- a method of one argument, called from beneath X -/
theorem own_run (F : FnOk X.prog X.w X.K X.mg X.base CX n f fd ps sp) (hb : Binds X.K fd ps []) (hx : Passes CX X E) (lo : Low X n g A) (I : Inv X pins σ H s) {Q : VK} (hsp : sp [.ref a] H Q E) :
    wpAny (model X.prog X.w) A (call (.ref f) [.ref a]) (EP X pins σ Q) X.xe s := by
  have e := I.env0
  have e0 : Env0 X.prog X.w X.K X.mg X.base A X.stack s H := ⟨lo.fr.trans e.frames, e.mod, e.bs, e.bsz, e.funs, e.frf, e.hok, e.bare⟩
  have hl := F.len _ _ _ _ hsp
  have bt := hb s [.ref a] I.kIn (by simpa using hl)
  rw [List.append_nil] at bt
  refine wpAny_call (codeAny_mono (F.run A X.stack s H ⟨[.ref a], []⟩ [.ref a] [.ref a] Q E lo.rm e0 bt (.cons rfl .nil) hsp) fun r s' hq => ?_)
  match r, hq with
  | .error e, hq => exact hx pins σ H s e s' I hq
  | .ok (.ret w), hq => exact I.after hq
theorem own_by {M : Model} {last : Value → List Value → Sem Value} {Q : Option Value → Shared → Prop} {E : Value → Shared → Prop} {K : PySem.W.Frag} {x : Addr} {ox : Obj} {od : Option Obj} {name : Str} (kx : K.In s.heap) (J : PySem.W.InstAt s.heap x ox C od)
    (hs : PySem.W.findIn K (.ref C) name = some (some (.ref f))) (hf : PySem.W.isFn K (.ref f) = true) (h : wpAny M A (last (.ref f) [.ref x]) (fun v => Q (some v)) E s) : wpAny M A (callSpecialIfBoundBy? last (.ref x) name) Q E s := by
  have done : wpAny M A (last (.ref f) [.ref x] >>= fun v => pure (some v)) Q E s := wpAny_bind (wpAny_mono h (fun _ _ q => wpAny_pure q) fun _ _ q => q)
  have bd := PySem.W.bind_fn (M := M) kx (.ref x) (beq_iff_eq.mp hf)
  simp only [callSpecialIfBoundBy?, bindSpecialIfBound?]
  refine wpAny_holding (wpAny_bind (wpAny_bind (wpAny_bind (J.type.here ((PySem.W.looks_findIn kx hs).here (wpAny_bind (wpAny_askSetting (wpAny_ite ?_))))))))
  split
  · exact wpAny_bind (bd.here (wpAny_pure done))
  · exact wpAny_tryCatch (wpAny_bind (bd.here (wpAny_pure done)))
theorem says_own (F : FnOk X.prog X.w X.K X.mg X.base CX n f fd ps sp) (hs : PySem.W.findIn X.K (.ref C) "__repr__" = some (some (.ref f))) (hf : PySem.W.isFn X.K (.ref f) = true) (hb : Binds X.K fd ps []) (hx : Passes CX X E)
    (ha : H a = some (.ins C dx fs)) (hsp : ∀ H1, Same H H1 → sp [.ref a] H1 (fun v H2 => v = .str t ∧ Same H1 H2) E) : Says X (n + 1) [] H (.ref a) t := by
  have turn : ∀ {A : Around} {g : List Code} {pins : List (Addr × Obj)} {s : Shared} {σ : L2.St} {H1 : Hp}, Low X n g A → Inv X pins σ H1 s → Same H H1 →
      wpAny (model X.prog X.w) A (call (.ref f) [.ref a]) (fun r s' => ∃ tk, r = .str t tk ∧ ∃ H2, Inv X pins σ H2 s' ∧ Same H1 H2) X.xe s := fun lo I e =>
    wpAny_mono (own_run F hb hx lo I (hsp _ e)) (fun r s' q => by
      obtain ⟨v, H2, I2, r2, ev, e2⟩ := q
      subst ev
      obtain ⟨tk, rfl⟩ := r2
      exact ⟨tk, rfl, H2, I2, e2⟩) fun _ _ q => q
  refine ⟨fun A g base pins s σ H1 u lo cl I e ru hz => ?_, fun A g pins s σ H1 u lo cl I e ru hz => ?_⟩
  · cases ru
    obtain ⟨mA, O, _⟩ := ins_get I.hok (e _ _ ha)
    obtain ⟨od, J, _⟩ := O.look
    have hu := lo.rm.units0
    refine wpAny_pyReprUnder_ref (by omega) ?_
    unfold pyReprObjUnder pyReprObjBy
    refine wpAny_bind (wpAny_cRoomFor hu (wpAny_bind (wpAny_bind (J.type.here ((PySem.W.looks_findIn I.kIn hs).here ?_)))))
    show wpAny _ _ (if (some (Value.ref f)).isNone = true then _ else _) _ _ _
    rw [if_neg (by simp)]
    refine wpAny_bind (own_by I.kIn J hs hf ?_)
    show wpAny _ _ (call (.ref f) [.ref a]) _ _ _
    refine wpAny_mono (turn (lo.mono (Nat.le_succ n)) I e) (fun r s2 q => ?_) fun _ _ q => q
    obtain ⟨tk, rfl, q⟩ := q
    exact wpAny_bind (wpAny_isInstance (typeIs_str _ _ _) isSubtype_str_str (wpAny_pure ⟨t, tk, rfl, rfl, q⟩))
  · cases ru
    obtain ⟨mA, O, _⟩ := ins_get I.hok (e _ _ ha)
    obtain ⟨od, J, _⟩ := O.look
    obtain ⟨m, hF⟩ := I.fr
    refine PySem.W.repr_K lo.in1.rm.units0 hF I.ok.mod.kin J hs hf (wpAny_mono (turn lo.in1 I e) (fun r s2 q => ?_) fun _ _ q => q)
    obtain ⟨tk, rfl, q⟩ := q
    exact ⟨⟨tk, rfl⟩, q⟩
end

/-! ### repr(x) in a body whose guards are known to be none -/
section
variable {X : Cx}
def rRepr (X : Cx) (n : Nat) : List V → Hp → VK → Prop := fun vs H Q => ∃ (v : V) (t : Str) (as : List Addr), vs = [v] ∧ Says X n as H v t ∧ t.length ≤ sizeLine ∧ ∀ H2, Same H H2 → Q (.str t) H2
theorem cr_repr {n : Nat} (hr : Room n X.A) (hg : X.A.guards = some []) : CallR X (.builtin "repr") (rRepr X n) := by
  intro pins s σ H vs us Q I r h
  obtain ⟨v, t, as, rfl, hv, hz, q⟩ := h
  obtain ⟨u, rfl, ru⟩ := vals1 r
  refine wpAny_mono (hv.top X.A [] pins s σ H u ⟨hr, rfl, hg⟩ (fun b _ => Clear.nil b) I (Same.refl H) ru hz) (fun w s2 k => ?_) fun _ _ k => k
  obtain ⟨⟨tk, rfl⟩, H2, I2, e2⟩ := k
  exact ⟨.str t, H2, I2, ⟨tk, rfl⟩, q H2 e2⟩
/-- repr(True), repr(False): whatever guards run -/
theorem cr_reprB : CallR X (.builtin "repr") (fun vs H Q => ∃ b : Bool, vs = [.bl b] ∧ Q (.str (if b then "True" else "False" : String)) H) := by
  intro pins s σ H vs us Q I r h
  obtain ⟨b, rfl, q⟩ := h
  obtain ⟨u, rfl, ru⟩ := vals1 r
  cases ru
  refine PySem.P.repr_of_bool ⟨.str (if b then "True" else "False" : String), H, I.tok _, ⟨s.toks, ?_⟩, q⟩
  cases b <;> rfl
end
end Rp
/-! defs that know that no guard runs around them, and the law's end for such a def -/
namespace Rp
open PySem PySem.Spec PyProof.Rows L2
/-- the promise of a def, where no guard runs around the call -/
structure FnG (P : Program) (w : World) (K : PySem.W.Frag) (mg : Str → Option Value) (base : Heap) (CX : CXT) (k : Nat) (f : Addr) (fd : FuncData) (ps : List Str) (sp : Sp) : Prop where
  len : ∀ vs H Q E, sp vs H Q E → vs.length = ps.length
  go : ∀ (A : Around) (outer : List Env) (s : Shared) (H : Hp) (args : Args) (us : List Value) (vs : List V) (Q : VK) (E : XK), A.guards = some [] → Room k A →
    Env0 P w K mg base A outer s H → BindsTo s fd args (ps.zip us) → Vals vs us → sp vs H Q E → codeAny (model P w) A (.call (.ref f) args) (CR CX outer P w H s Q E) s
section
variable {P : Program} {w : World} {K : PySem.W.Frag} {mg : Str → Option Value} {base : Heap} {CX : CXT} {k : Nat} {f : Addr} {fd : FuncData} {ps : List Str} {sp : Sp}
theorem FnG.of (F : FnOk P w K mg base CX k f fd ps sp) : FnG P w K mg base CX k f fd ps sp := ⟨F.len, fun A outer s H args us vs Q E _ => F.run A outer s H args us vs Q E⟩
/-- a def by its body; the body may use that no guard runs -/
theorem fn_bodyG {name qual : Str} {params : Arguments} {body : List Stmt} {scope : Scope} {dV kV doc pm cdv ct oc : Value} {an od : Option Addr} {osl : Array (Option Value)} {N : List Str}
    (lk : K.lookup f = some ⟨oc, od, .func (PySem.W.fnOf name qual params body scope dV kV doc pm an cdv ct), osl⟩) (hcd : PySem.W.codeIn K cdv qual = true) (S : FnScope N ps scope) (len : ∀ vs H Q E, sp vs H Q E → vs.length = ps.length)
    (hbody : ∀ (A : Around) (outer : List Env) (s : Shared) (H : Hp) (vs : List V) (Q : VK) (E : XK), A.guards = some [] → Room k (A.deeper (envOfC qual scope s.heap.objs.size f cdv)) → sp vs H Q E →
      ∃ t, PSs (cxOf CX P w K mg base N qual scope f cdv A outer s H E) body t ∧ t { nx := fun _ H' => Q .non H', rt := Q } (start N vs) H) :
    FnG P w K mg base CX (k + 1) f (PySem.W.fnOf name qual params body scope dV kV doc pm an cdv ct) ps sp := by
  refine ⟨len, fun A outer s H args us vs Q E gd hr e0 hb rv hsp => ?_⟩
  have here : ∀ b o, base.get? b = some o → s.heap.get? b = some o := fun b o e => (e0.bs b o e).1
  have kx : K.In s.heap := e0.mod.kin.keeps here
  have lim : s.heap.NoLimit := e0.mod.nolimit.keeps here
  have kinds : ∀ y ∈ ps.zip us, scope.names.lookup y.1 = some .local ∨ (scope.names.lookup y.1 = some .cell ∧ ((cellsFrom (s.heap.objs.size + 1) scope.names []).lookup y.1).isSome = true) := by
    rintro ⟨n, v⟩ hy
    exact (S.par n (List.of_mem_zip hy).1).imp id fun q => ⟨q, PySem.W.cellsFrom_some _ _ _ (.inl q)⟩
  refine codeAny_call_function hr.depth (kx _ _ lk) rfl S.co S.gen rfl (PySem.W.codeRec_of kx hcd) (hb _ _ _ _ (wpAny_newFunctionEnv_cells S.kind kinds fun env he s1 ic => ?_))
  subst he
  refine ⟨lim.keeps ic.toInCall.keep, codeAny_func ?_⟩
  obtain ⟨t, ht, hq⟩ := hbody A outer s H vs Q E gd (hr.deeper _) hsp
  have I : L2.Inv (cxOf CX P w K mg base N qual scope f cdv A outer s H E) [] (start N vs) H s1 := inv_start S hr.hd e0 (len _ _ _ _ hsp) rv ic
  refine wpAny_mono (ht.run [] s1 (start N vs) H _ I hq) (fun fl s' hs => ?_) fun e s' hs => hs
  cases fl with
  | next =>
    obtain ⟨σ', H', J, q⟩ := hs
    exact ⟨V.non, H', J.os, J.bare, J.base, J.hok, (rfl : RelV .non Value.none), q⟩
  | ret u =>
    obtain ⟨v, σ', H', J, rv, q⟩ := hs
    exact ⟨v, H', J.os, J.bare, J.base, J.hok, rv, q⟩
  | brk => exact hs.elim fun _ z => z.elim fun _ z => z.2.elim
  | cont => exact hs.elim fun _ z => z.elim fun _ z => z.2.elim
theorem Fun_okG {x qual : Str} {st : Stmt} {N : List Str} (F : Fun K x qual st f fd) (S : FnScope N ps (defScope st)) (len : ∀ vs H Q E, sp vs H Q E → vs.length = ps.length)
    (body : ∀ (cdv : Value) (A : Around) (outer : List Env) (s : Shared) (H : Hp) (vs : List V) (Q : VK) (E : XK), A.guards = some [] →
      Room k (A.deeper (envOfC qual (defScope st) s.heap.objs.size f cdv)) → sp vs H Q E →
      ∃ t, PSs (cxOf CX P w K mg base N qual (defScope st) f cdv A outer s H E) (defBody st) t ∧ t { nx := fun _ H' => Q .non H', rt := Q } (start N vs) H) : FnG P w K mg base CX (k + 1) f fd ps sp := by
  obtain ⟨oc, od, kV, doc, pm, an, cdv, ct, osl, rfl, lk, hcd⟩ := F.ex
  exact fn_bodyG lk hcd S len fun A outer s H vs Q E gd hr hsp => body cdv A outer s H vs Q E gd hr hsp
theorem Fun_okG0 {x qual : Str} {st : Stmt} {N : List Str} (F : Fun K x qual st f fd) (S : FnScope N ps (defScope st)) (len : ∀ vs H Q E, sp vs H Q E → vs.length = ps.length)
    (body : ∀ (cdv : Value) (A : Around) (outer : List Env) (s : Shared) (H : Hp) (vs : List V) (Q : VK) (E : XK), A.guards = some [] →
      Room k (A.deeper (envOfC qual (defScope st) s.heap.objs.size f cdv)) → sp vs H Q E →
      ∃ t, PSs (cxOf CX0 P w K mg base N qual (defScope st) f cdv A outer s H E).nox (defBody st) t ∧ t { nx := fun _ H' => Q .non H', rt := Q } (start N vs) H) : FnG P w K mg base CX0 (k + 1) f fd ps sp :=
  Fun_okG F S len fun cdv A outer s H vs Q E gd hr hsp => let ⟨t, h, q⟩ := body cdv A outer s H vs Q E gd hr hsp; ⟨t, h.nox, q⟩
end

/-! ### the call of such a def -/
section
variable {X : Cx} {CX : CXT} {k : Nat} {f : Addr} {fd : FuncData} {ps : List Str} {sp : Sp} {dvs : List V} {ds : List Value} {E : XK} {x : Str} {p pos : Pos} {e : Expr} {es : List Expr} {t : TA}
theorem run_fnG {pins : List (Addr × Obj)} {σ : L2.St} {H : Hp} {s : Shared} {Q : VK} {us : List Value} {vs : List V} (F : FnG X.prog X.w X.K X.mg X.base CX k f fd ps sp) (hg : X.A.guards = some []) (hr : Room k X.A) (hb : Binds X.K fd ps ds) (hd : Vals dvs ds)
    (hx : Passes CX X E) (I : Inv X pins σ H s) (r : Vals vs us) (h : sp (vs ++ dvs) H Q E) : wpAny (model X.prog X.w) X.A (call (.ref f) us) (EP X pins σ Q) X.xe s := by
  have all := r.append hd
  have hl := all.length.symm.trans (F.len _ _ _ _ h)
  refine wpAny_call (codeAny_mono (F.go X.A X.stack s H ⟨us, []⟩ (us ++ ds) (vs ++ dvs) Q E hg hr I.env0 (hb s us I.kIn hl) all h) fun r s' hq => ?_)
  match r, hq with
  | .error e, hq => exact hx pins σ H s e s' I hq
  | .ok (.ret u), hq => exact I.after hq
theorem pe_callG (F : FnG X.prog X.w X.K X.mg X.base CX k f fd ps sp) (hgd : X.A.guards = some []) (hr : Room k X.A) (hg : Gl X x) (hm : X.mg x = some (.ref f)) (hk : PySem.W.keepIn X.K (.ref f) = true) (hb : Binds X.K fd ps ds) (hd : Vals dvs ds) (hx : Passes CX X E)
    (ha : PA X (e :: es) t) (hdb : (x == ("__debug__" : Str)) = false := by decide) (he : starEach (e :: es) X.env = (false, eval e X.env) :: starEach es X.env := by rfl) (hpl : (backTo pos (starEach es X.env)).any (·.1) = false := by rfl) :
    PE X (.Call (.Name x p) (e :: es) [] pos) (tCall sp dvs E t) :=
  ⟨fun pins s σ H Q I h => wpAny_Call_Name_kw (ld_glob I hg hm (PySem.W.callWith_K (h₀ := X.base) I.ok.mod.kin hk (thn (ha.run pos pins s σ H _ I h) fun us s1 ⟨vs, H1, I1, r, q⟩ => ⟨I1.kIn, run_fnG F hgd hr hb hd hx I1 r q⟩) he hpl) hdb)⟩
end

/-! ### the law's end -/
/-- what stands tracked at the law's entry: the script alone, or nothing -/
def atScript (a : Addr) (u : HO) : Hp := fun b => if b = a then some u else none
theorem law_atG {P : Program} {w : World} {K : PySem.W.Frag} {mg mb : Str → Option Value} {CX : CXT} {k : Nat} {fa a : Addr} {fd : FuncData} {x : Str} {sp : Sp} {s₁ : Shared} {vs : List Value} {ns : List Int}
    (KX : K.In s₁.heap) (hns : s₁.heap.Ns mainGlobals mg) (hb : s₁.heap.Ns builtinsNs mb) (hbb : ∀ x : Str, x ≠ "__name__" → mb x = bootBuiltins x) (hlim : s₁.heap.NoLimit) (hg : s₁.gens = #[])
    (ha : s₁.heap.get? a = some { cls := .type "list", data := .seq vs.toArray }) (hr : Room k callerA)
    (F : ∀ base : Heap, K.In base → base.Ns mainGlobals mg → FnG P w K mg base CX k fa fd [x] sp) (hbind : ∀ (s : Shared) (u : Value), BindsTo s fd ⟨[u], []⟩ [(x, u)])
    (hCX : ∀ H e s', CX [] H s₁ (fun _ _ _ => False) e s' → False) (H : Hp) (hA : ∀ b, H b ≠ none → b = a) (hF : ∀ u, H a = some u → ∃ o xs, u = .frz o (.lst xs)) (hok : HOk P w H s₁.heap) (hK : H a ≠ none → K.lookup a = none)
    (hsp : sp [.ref a] H (fun v _ => v = .bl true) fun _ _ _ => False) :
    codeAny (model P w) callerA (.call (.ref fa) ⟨[.ref a], []⟩) (fun r s' => r = .ok (.ret (.bool true)) ∧ OldK s₁.heap s'.heap ∧ s'.os = s₁.os ∧ AllBare s'.gens) s₁ := by
  have split : ∀ b u, H b = some u → b = a := fun b u e => hA b fun z => by rw [z] at e; cases e
  have dictless : ∀ {b : Addr} {o : Obj} {es : Array DictEntry} {ep : Nat}, s₁.heap.get? b = some o → o.data = .dict es ep → H b = none := fun {b o es ep} e d => by
    cases q : H b with
    | none => rfl
    | some u =>
      have z := split b u q
      subst z
      rw [ha] at e
      cases e
      cases (show Data.seq vs.toArray _ = Data.dict es ep from d)
  have names : ∀ {b : Addr} {m : Str → Option Value}, s₁.heap.Ns b m → (hidT s₁.heap H).Ns b m := fun {b m} h => by
    obtain ⟨o, es, ep, e, d, r⟩ := h
    exact ⟨o, es, ep, hidT_get e (dictless e d), d, r⟩
  have kb : K.In (hidT s₁.heap H) := fun b o e => hidT_get (KX b o e) (by
    cases q : H b with
    | none => rfl
    | some u =>
      have z := split b u q
      subst z
      rw [hK fun z => by rw [q] at z; cases z] at e
      cases e)
  have M : Mod K mg (hidT s₁.heap H) := by
    obtain ⟨mc, h1, h2⟩ := hlim
    exact ⟨kb, names hns, ⟨mb, names hb, hbb⟩, ⟨mc, names h1, h2⟩⟩
  have e0 : Env0 P w K mg (hidT s₁.heap H) callerA [] s₁ H :=
    { frames := rfl, mod := M, bs := fun b o e => of_hidT e, bsz := Nat.le_of_eq (hidT_size _ _), funs := trivial, frf := fun b hb => (by simp [frs] at hb), hok := hok, bare := .of_eq hg }
  refine codeAny_mono ((F _ kb (names hns)).go callerA [] s₁ H ⟨[.ref a], []⟩ [.ref a] [.ref a] _ _ rfl hr e0 (hbind s₁ (.ref a)) (.cons rfl .nil) hsp) fun r s' h => ?_
  match r, h with
  | .error e, h => exact (hCX H e s' h).elim
  | .ok (.ret u), ⟨v, H', os, bare, un, hok', rv, q⟩ =>
    have ev : v = .bl true := q
    subst ev
    have eu : u = Value.bool true := rv
    subst eu
    refine ⟨rfl, OldK.of_keep fun b o e => ?_, os, bare⟩
    cases z : H b with
    | none => exact un.keep b o e z (by simp [frs]) (by simp)
    | some u =>
      have eb := split b u z
      subst eb
      obtain ⟨ob, xs, eu⟩ := hF u z
      subst eu
      obtain ⟨e1, _⟩ := hok b _ z
      obtain ⟨e2, _⟩ := hok' b _ (un.frzs b ob _ z)
      rw [e] at e1
      cases e1
      exact e2
theorem law_callG {P : Program} {w : World} {K : PySem.W.Frag} {mg mb : Str → Option Value} {CX : CXT} {k : Nat} {fa a : Addr} {fd : FuncData} {x : Str} {sp : Sp} {s₁ : Shared} {vs : List Value} {ns : List Int}
    (KX : K.In s₁.heap) (hns : s₁.heap.Ns mainGlobals mg) (hb : s₁.heap.Ns builtinsNs mb) (hbb : ∀ x : Str, x ≠ "__name__" → mb x = bootBuiltins x) (hlim : s₁.heap.NoLimit) (hg : s₁.gens = #[])
    (ha : s₁.heap.get? a = some { cls := .type "list", data := .seq vs.toArray }) (hi : IntsAre vs ns) (hl : ns.length ≤ sizeLine) (hr : Room k callerA)
    (F : ∀ base : Heap, K.In base → base.Ns mainGlobals mg → FnG P w K mg base CX k fa fd [x] sp) (hbind : ∀ (s : Shared) (u : Value), BindsTo s fd ⟨[u], []⟩ [(x, u)])
    (hsp : ∀ H : Hp, Only H → SqL K H a (ns.map V.int) → sp [.ref a] H (fun v _ => v = .bl true) fun _ _ _ => False)
    (hCX : ∀ H e s', CX [] H s₁ (fun _ _ _ => False) e s' → False) :
    codeAny (model P w) callerA (.call (.ref fa) ⟨[.ref a], []⟩) (fun r s' => r = .ok (.ret (.bool true)) ∧ OldK s₁.heap s'.heap ∧ s'.os = s₁.os ∧ AllBare s'.gens) s₁ := by
  have rv := vals_ints hi
  have lenV := hi.length
  have main := law_atG (ns := ns) KX hns hb hbb hlim hg ha hr F hbind hCX
  cases hk : K.lookup a with
  | some o =>
    have e := KX a o hk
    rw [ha] at e
    cases e
    have nothing : Only fun _ => none := fun b => .inl rfl
    exact main (fun _ => none) (fun b z => absurd rfl z) (fun u z => by cases z) (fun b u z => by cases z) (fun z => absurd rfl z)
      (hsp _ nothing (.inr ⟨_, vs.toArray, _, hk, rfl, rfl, rfl, by rw [List.size_toArray, lenV]; exact hl, by simpa using rv⟩))
  | none =>
    have at_ : atScript a (.frz { cls := .type "list", data := .seq vs.toArray } (.lst (ns.map V.int))) a = some (.frz { cls := .type "list", data := .seq vs.toArray } (.lst (ns.map V.int))) := if_pos rfl
    have off : ∀ b, b ≠ a → atScript a (.frz { cls := .type "list", data := .seq vs.toArray } (.lst (ns.map V.int))) b = none := fun b hb => if_neg hb
    refine main (atScript a (.frz { cls := .type "list", data := .seq vs.toArray } (.lst (ns.map V.int)))) (fun b z => Classical.byContradiction fun hb => z (off b hb)) (fun u z => ?_) (fun b u z => ?_) (fun _ => hk)
      (hsp _ (fun b => ?_) (.inl (.inr ⟨_, at_⟩)))
    · rw [at_] at z
      cases z
      exact ⟨_, _, rfl⟩
    · by_cases hb : b = a
      · subst hb
        rw [at_] at z
        cases z
        exact ⟨ha, by rw [List.length_map]; exact hl, vs, _, rv, ha⟩
      · rw [off b hb] at z
        cases z
    · by_cases hb : b = a
      · subst hb
        exact .inr ⟨_, _, at_⟩
      · exact .inl (off b hb)
/-- the goal that k_head leaves, from the law's promise where no guard runs -/
theorem walk_ofG {l : PySem.W.OpenLaw} {n k : Nat} {q : Program} {loose : List Str} {XP : (Str → Option Value) → Heap → Prop} {YP : World → Heap → Prop} {d : DefRec} {K : Params → PySem.W.Frag} {CX : World → CXT} {sp : World → Sp} {x : Str}
    (hn : l.most = some n) (hn2 : n ≤ sizeLine) (hdf : d.params.defaults = []) (hr : Room k callerA) (hY : ∀ (w : World) (h : Heap), YP w h → (K w.params).In h)
    (F : ∀ (w : World) (mg : Str → Option Value) (fa : Addr) (h : Heap), (K w.params).In h → h.Ns mainGlobals mg → mg d.name = some (.ref fa) →
      ∃ fd : FuncData, (∀ (s : Shared) (u : Value), BindsTo s fd ⟨[u], []⟩ [(x, u)]) ∧ ∀ base : Heap, (K w.params).In base → base.Ns mainGlobals mg → FnG l.prog w (K w.params) mg base (CX w) k fa fd [x] (sp w))
    (hsp : ∀ (w : World) (H : Hp) (a : Addr) (ns : List Int), ns.length ≤ n → Only H → SqL (K w.params) H a (ns.map V.int) → sp w [.ref a] H (fun v _ => v = .bl true) fun _ _ _ => False)
    (hCX : ∀ (w : World) (H : Hp) (s : Shared) (e : Value) (s' : Shared), CX w [] H s (fun _ _ _ => False) e s' → False) :
    PySem.W.WalkO q loose XP YP l.row.toRowW d [] (fun f vs => PySem.call f vs) :=
  Att.attach_call hn hdf fun w s₀ s₁ mg mb fa o pm cd doc a vs ns G Y ho hd hcd hmg hobj hints hlen hg =>
    let ⟨_, hb, hF⟩ := F w mg fa _ (hY w _ Y) G.T.g hmg
    law_callG (hY w _ Y) G.T.g G.T.b G.T.builtins G.T.nolimit hg hobj hints (Nat.le_trans hlen hn2) hr hF hb (fun H hO hS => hsp w H a ns hlen hO hS) fun H e s' => hCX w H s₁ e s'
end Rp
/-! sep.join(reversed(xs)), xs a list of texts -/
namespace Rp
open PySem PySem.Spec PyProof.Rows L2
section
variable {prog : Program} {w : World} {A : Around} {E : Value → Shared → Prop} {s : Shared} {x : Str} {t : Tok} {Q : Value → Shared → Prop}
theorem join_rev {it l : Addr} {items : Array Value} {ys : List Str} (hh : A.handled = none) (hit : s.heap.IsRevIter it l ((items.size : Int) - 1)) (hl : s.heap.IsList l items) (hne : l ≠ it) (hn : items.size ≤ sizeLine)
    (hi : StrsAre items.toList.reverse ys) (hok : (ys.map (·.length)).sum + ys.length * x.length ≤ 16777216)
    (h : ∀ (h' : Heap) (t' k : Tok), (∀ b o, b ≠ it → s.heap.get? b = some o → h'.get? b = some o) → Q (.str (Txt.join x ys) t') { s with heap := h', toks := k }) :
    wpAny (model prog w) A (call (.builtin "str.join") [.str x t, .ref it]) Q E s := by
  refine wpAny_call (codeAny_call_builtin F.slot_str_join.plain F.entry_str_join (F.slot_str_join.check _ _ _ _ _ _ _ _ (typeIs_str _ _ _) (F.args_str_join_2 _ _) ?_))
  have hT : s.TypeIs (.ref it) "list_reverseiterator" := Heap.IsRevIter.typeIs hit
  have hh1 : A.in1.handled = none := hh
  rw [join_tree_other]
  refine wpAny_bind (wpAny_typeOf hT ?_)
  show wpAny _ A.in1 ((pyIter (.ref it)).tryCatch _ >>= fun j => collect j >>= fun vs => joinTail x vs) _ _ s
  refine wpAny_bind (wpAny_tryCatch (wpAny_pyIter_revIter hit (wpAny_bind (RT.collect_rev (A := A.in1) hh1 hit hl hne hn fun h' tk acc hk hacc => ?_))))
  have el : acc.toList = items.toList.reverse := by
    have hs : items.size = items.toList.length := by simp
    have ha : acc.toList.length = items.toList.length := by rw [Array.length_toList, hacc.1, hs]
    refine List.ext_getElem? fun j => ?_
    by_cases hj : j < items.toList.length
    · have hja : j < acc.toList.length := by omega
      have e1 : acc.toList[j]? = some acc.toList[j] := List.getElem?_eq_getElem hja
      have e2 := hacc.2 j acc.toList[j] (by rw [← Array.getElem?_toList]; exact e1)
      rw [e1, List.getElem?_reverse hj, ← e2, hs] <;> simp
    · rw [List.getElem?_eq_none (by omega), List.getElem?_eq_none (by rw [List.length_reverse]; omega)]
  rw [el]
  obtain ⟨q, hv, ht⟩ := strsAre_values hi
  rw [hv]
  subst ht
  have ok := joinOk_of hok
  have ok' := ok
  unfold JoinOk at ok'
  rw [Bool.not_eq_true'] at ok'
  have g : Gives (joinTail x (strValues q)) (joinMade x q) := by
    have g0 := gives_joinTail x q ok'
    rcases q with _ | ⟨c, _ | ⟨d, r⟩⟩ <;> exact g0
  exact g prog w A (wants Q E) { s with heap := h', toks := tk } (post_join q ⟨joinFit_length ok', fun t' k => h h' t' k hk⟩)
end

section
variable {X : Cx} {o e : Expr} {to te : TE} {p2 apos pos pos2 : Pos}
/-- o.join(reversed(e)) -/
def tJoinRev (K : PySem.W.Frag) (to te : TE) : TE := fun σ H Q => to σ H fun v H1 => ∃ sep : Str, v = .str sep ∧ te σ H1 fun u H2 => ∃ (a : Addr) (ys : List Str), u = .ref a ∧ SqL K H2 a (ys.map V.str) ∧
  (ys.map (·.length)).sum + ys.length * sep.length ≤ 16777216 ∧ Q (.str (Txt.join sep ys.reverse)) H2
theorem pe_joinRev (hc : X.calm = true) (hg : Gl X "reversed") (hm : X.mg "reversed" = none) (ho : PE X o to) (he : PE X e te)
    (hs : starEach [e] X.env = (false, eval e X.env) :: starEach [] X.env := by rfl)
    (hs2 : starEach [.Call (.Name "reversed" p2) [e] [] pos2] X.env = [(false, eval (.Call (.Name "reversed" p2) [e] [] pos2) X.env)] := by rfl)
    (hbase : attributeBase o "join" X.env (eval o X.env) = eval o X.env := by rfl) (hline : (apos.endLine == pos.line) = true := by rfl) :
    PE X (.Call (.Attribute o "join" apos) [.Call (.Name "reversed" p2) [e] [] pos2] [] pos) (tJoinRev X.K to te) := by
  refine ⟨fun pins s σ H Q I h => ?_⟩
  refine PySem.Call_method1 hbase hs2 hline (thn (ho.run pins s σ H _ I h) fun v s1 k => ?_)
  obtain ⟨xv, H1, I1, r1, sep, rfl, q1⟩ := k
  obtain ⟨t, rfl⟩ := r1
  refine ⟨"str", _, F.plainAttrs_str, F.slot_str_join, F.type_str_join, typeIs_str _ _ _, (fun _ e => nomatch e), Calls.callWith_builtin rfl (Calls.evalArgs_plain (Calls.spliced_cons ?_))⟩
  refine Call_ (ld_blt I1 hg hm PyProof.Rows.boot_reversed (PyProof.Rows.callWith_type1 (args_cons (thn (he.run pins s1 σ H1 _ I1 q1) fun u s2 k => args_nil ?_) hs) hs rfl))
  obtain ⟨yv, H2, I2, r2, a, ys, rfl, hq, hz, q2⟩ := k
  obtain rfl : u = Value.ref a := r2
  obtain ⟨its, rv, pl, hsz⟩ := I2.list hq
  refine call_reversed_list pl.isList (Calls.spliced_nil ?_)
  have hl := pl.isList
  obtain ⟨ol, hol, _⟩ := id hl
  have grow : ∀ b o, s2.heap.get? b = some o → (s2.heap.push (revObj a ((its.toArray.size : Int) - 1))).get? b = some o := fun b o e => Heap.get?_push_of_some _ e
  have I3 : L2.Inv X pins σ H2 { s2 with heap := s2.heap.push (revObj a ((its.toArray.size : Int) - 1)) } := I2.kept (t' := s2.toks) grow
  obtain ⟨f0, f1, f2, f3, f4, f5⟩ := I2.fpOk (H' := H2) (b := s2.heap.objs.size) (Nat.le_refl _) (I2.hok.fresh (Nat.le_refl _))
  have st := strs_of_vals (us := its.reverse) (ys := ys.reverse) (by rw [List.map_reverse]; exact rv.reverse)
  refine join_rev (s := { s2 with heap := s2.heap.push (revObj a ((its.toArray.size : Int) - 1)) }) (items := its.toArray) (I1.ok.hd hc) ⟨_, Heap.get?_push_size _ rfl, rfl, rfl⟩ (hl.push _) (Nat.ne_of_lt (Heap.lt_size hol)) (by rw [List.size_toArray, ← rv.length]; exact hsz)
    (by simpa using st) (by simpa [List.sum_reverse] using hz) fun h' t' k hk => ?_
  exact ⟨.str _, H2, I3.turned (t' := k) (fun b o hb e => hk b o hb e) f0 f1 f3 f4 f5, ⟨t', rfl⟩, q2⟩
end
end Rp
/-! repr of tuples, by the abstract heap -/
namespace Rp
open PySem PySem.Spec PyProof.Rows L2
section
variable {X : Cx} {n : Nat} {as : List Addr} {H : Hp} {a : Addr} {xs : List V} {ts : List Str} {base : Nat} {g : List Code} {A : Around} {pins : List (Addr × Obj)} {σ : L2.St}
theorem tup_fold (lo : Low X n g A) (hcl : ∀ b ∈ as, Clear g b) {Q : (Array Str × Nat) → Shared → Prop} : ∀ (xs : List V) (us : List Value) (ts : List Str) (acc : Array Str) (m : Nat) (s : Shared) (H1 : Hp), Vals xs us → ts.length = xs.length →
    (∀ (i : Nat) (x : V), xs[i]? = some x → ∃ t, ts[i]? = some t ∧ Says X n as H x t) → m + piled ts ≤ sizeLine → Inv X pins σ H1 s → Same H H1 →
    (∀ s2 H2, Inv X pins σ H2 s2 → Same H1 H2 → Q ⟨acc ++ ts.toArray, m + piled ts⟩ s2) → wpAny (model X.prog X.w) A (forIn us (⟨acc, m⟩ : (Array Str × Nat)) tupBody) Q X.xe s := by
  intro xs
  induction xs with
  | nil =>
    intro us ts acc m s H1 rv hl _ _ I e h
    cases rv
    have : ts = [] := List.length_eq_zero_iff.mp hl
    subst this
    have q := h s H1 I (Same.refl H1)
    rw [List.forIn_nil]
    exact wpAny_pure (by simpa [piled] using q)
  | cons x xs ih =>
    intro us ts acc m s H1 rv hl hs hz I e h
    cases rv with
    | cons r1 r2 =>
      rename_i u us
      match ts, hl, hs, hz, h with
      | t :: ts, hl, hs, hz, h =>
        obtain ⟨t', ht, hsay⟩ := hs 0 x rfl
        cases ht
        rw [piled_cons] at hz
        rw [List.forIn_cons]
        refine wpAny_bind (wpAny_bind (wpAny_mono (hsay.und A g (m + 1) pins s σ H1 u lo hcl I e r1 (by omega)) (fun r s2 k => ?_) fun _ _ k => k))
        obtain ⟨er, H2, I2, e2⟩ := k
        subst er
        refine wpAny_pure (ih us ts (acc.push r) (m + (r.length + 2)) s2 H2 r2 (by simpa using hl) (fun i y hy => hs (i + 1) y hy) (by omega) I2 (e.trans e2) fun s3 H3 I3 e3 => ?_)
        have q := h s3 H3 I3 (e2.trans e3)
        have eq : m + piled (r :: ts) = m + (r.length + 2) + piled ts := by rw [piled_cons]; omega
        rw [eq] at q
        simpa using q
theorem tup_body {id : String} {rest : List Value} (lo : Low X (n + 1) g A) (hcl : ∀ b ∈ a :: as, Clear g b) (hna : a ∉ as) (hit : ∀ (i : Nat) (x : V), xs[i]? = some x → ∃ t, ts[i]? = some t ∧ Says X n as H x t) (hl : ts.length = xs.length)
    (hsz : base + (tupleText ts).length ≤ sizeLine) (hq : SqT X.K H a xs) {s : Shared} {H1 : Hp} (I : Inv X pins σ H1 s) (hs : Same H H1) {R : Result → Shared → Prop}
    (hg : (Code.builtin id ⟨.ref a :: rest, []⟩).guards = [Code.builtin id ⟨.ref a :: rest, []⟩]) (hw : (Code.builtin id ⟨.ref a :: rest, []⟩).weight = 1) (hu : (Code.builtin id ⟨.ref a :: rest, []⟩).cUnits = 1) (he : (Code.builtin id ⟨.ref a :: rest, []⟩).envs = [])
    (fin : ∀ s H2 u, Inv X pins σ H2 s → Same H1 H2 → R (.ok (.ret (.str (tupleText ts) u))) s) (bad : ∀ e s, X.xe e s → R (.error e) s) :
    wpOwn (model X.prog X.w) A (.builtin id ⟨.ref a :: rest, []⟩) (Builtin.tupleReprAt base ⟨[.ref a], []⟩) (fun fin s' => match fin with | .done f => R (.ok f) s' | .again c' => c'.quiet = true ∧ codeAny (model X.prog X.w) A c' R s') (fun e s' => R (.error e) s') s := by
  have hsq : SqT X.K H1 a xs := hq.elim (fun h => .inl (h.elim (fun h => .inl (hs _ _ h)) fun ⟨o, h⟩ => .inr ⟨o, hs _ _ h⟩)) .inr
  obtain ⟨its, rv, ⟨o, ho, hc, na, hd⟩, _⟩ := I.tuple hsq
  have hp := piled_le_tupleText ts
  have hsz0 : (tupleText ts).length ≤ sizeLine := by omega
  have hlen : ts.length = its.toArray.size := by rw [hl, rv.length]; simp
  rw [tuple_repr_tree, tupleReprUnderWay_eq]
  refine wpOwn_bind (wpOwn_stackTailAny lo.gd (tupGuardF_off _) (tupGuardF_pos _) ?_)
  rw [show (g.any fun c => tupGuardF (.ref a) (c, default)) = false from List.any_eq_false.mpr fun c hc => by
    rw [tupGuardF_of_clear (hcl a List.mem_cons_self) c hc]
    exact Bool.false_ne_true]
  refine wpOwn_of_wpAny ?_
  show wpAny _ _ (tupleReprRest base (.ref a)) _ _ s
  unfold tupleReprRest Builtin.Tuple.tupleItemsOf
  refine wpAny_bind (wpAny_bind (wpAny_seqItems ho hd (wpAny_pure ?_)))
  rw [← Array.forIn_toList]
  refine wpAny_bind (wpAny_mono (tup_fold (lo.guard hg hw hu he) (fun b hb => (hcl b (List.mem_cons_of_mem _ hb)).cons (a := a) fun e => hna (e ▸ hb)) xs its ts #[] base s H1 rv hl hit (by omega) I hs
    (Q := fun r s2 => r = ⟨#[] ++ ts.toArray, base + piled ts⟩ ∧ ∃ H2, Inv X pins σ H2 s2 ∧ Same H1 H2) fun s2 H2 I2 e2 => ⟨rfl, H2, I2, e2⟩) (fun r s2 k => ?_) fun e s2 k => bad e s2 k)
  obtain ⟨er, H2, I2, e2⟩ := k
  subst er
  refine wpAny_bind (wpAny_mkStr (wpAny_pure ?_) (by simpa [tupleText, hlen] using hsz0))
  have h1 := fin _ H2 s2.toks (I2.tok (s2.toks + 1)) e2
  simpa [tupleText, hlen] using h1
theorem says_tup (hq : SqT X.K H a xs) (hna : a ∉ as) (hl : ts.length = xs.length) (hit : ∀ (i : Nat) (x : V), xs[i]? = some x → ∃ t, ts[i]? = some t ∧ Says X n as H x t) : Says X (n + 2) (a :: as) H (.ref a) (tupleText ts) := by
  refine ⟨fun A g base pins s σ H1 u lo cl I hs ru hz => ?_, fun A g pins s σ H1 u lo cl I hs ru hz => ?_⟩
  all_goals
    cases ru
    have hsq : SqT X.K H1 a xs := hq.elim (fun h => .inl (h.elim (fun h => .inl (hs _ _ h)) fun ⟨o, h⟩ => .inr ⟨o, hs _ _ h⟩)) .inr
    obtain ⟨its, rv, ⟨o, ho, hc, na, hd⟩, _⟩ := I.tuple hsq
  · refine wpAny_pyReprUnder_ref (by omega) (wpAny_pyReprObjUnder_twin (twin := "tuple.__repr__.under") ⟨o, ho, hc⟩ PySem.F.slot_tuple_repr rfl lo.rm.units0
      (call_twin_own (PySem.F.quiet_tuple_repr_under _) PySem.F.entry_tuple_repr_under PySem.F.check_tuple_repr_under ⟨o, ho, hc⟩ PySem.F.slot_tuple_repr (PySem.F.args_tuple_repr_1 _)
        (tup_body (R := callEnd _ _) (lo.mono (by omega)) cl hna hit hl hz hq I hs (by show (if Code.isGuard _ then _ else _) = _; rw [isGuard_tuple_repr_under]; rfl) (by simp only [Code.weight, isGuard_tuple_repr_under]; rfl) (by rfl) (by first | rfl | simp [Code.envs, Code.isFrame])
          (fun s2 H2 tk I2 e2 => ⟨⟨_, _, rfl⟩, _, _, rfl, rfl, H2, I2, e2⟩) fun e s2 he => he)))
  · have h1 := lo.rm.units
    refine call_repr_slot (by omega) ⟨o, ho, hc⟩ PySem.F.slot_tuple_repr (wpAny_call (codeAny_call_builtin_own (Code.quiet_builtin _ (by decide +kernel)) PySem.F.entry_tuple_repr (PySem.F.slot_tuple_repr.check _ _ _ _ _ _ _ _ ⟨o, ho, hc⟩ (PySem.F.args_tuple_repr_1 _)
      (tup_body (A := A.in1) (base := 0) (R := callEnd _ _) lo.in1 cl hna hit hl (by omega) hq I hs (by show (if Code.isGuard _ then _ else _) = _; rw [isGuard_tuple_repr]; rfl) (by simp only [Code.weight, isGuard_tuple_repr]; rfl) (by rfl) (by first | rfl | simp [Code.envs, Code.isFrame])
        (fun s2 H2 tk I2 e2 => ⟨_, _, rfl, ⟨_, rfl⟩, H2, I2, e2⟩) fun e s2 he => he))))
end
end Rp
/-! a caught error: isinstance of it, a def that is handed it, its fields; a method that may raise; count of truths -/
namespace Rp
open PySem PySem.Spec PyProof.Rows L2
/-- the dict of an exception that is looked at stands tracked, or there is none -/
def HasD (H : Hp) (d : Option Addr) : Prop := d = none ∨ ∃ dx fs, d = some dx ∧ H dx = some (.xd fs)
theorem exc_inst {X : Cx} {pins : List (Addr × Obj)} {σ : L2.St} {H : Hp} {s : Shared} {a D : Addr} {oe : Obj} {d : Option Addr} (I : Inv X pins σ H s) (hp : (a, oe) ∈ X.pn) (hz : Zc (.ref D) d oe) (hf : ∃ vs, oe.data = .fields vs) (hd : HasD H d) :
    ∃ od, PySem.W.InstAt s.heap a oe D od := by
  obtain ⟨hget, _⟩ := I.pin (a, oe) (List.mem_append_left _ hp)
  obtain ⟨vs, hv⟩ := hf
  rcases hd with rfl | ⟨dx, fs, rfl, hx⟩
  · refine ⟨none, ?_⟩
    obtain ⟨oc, od, oda, osl⟩ := oe
    obtain ⟨h1, h2⟩ := hz
    dsimp only at h1 h2 hv
    subst h1 h2 hv
    exact ⟨hget, rfl, rfl, trivial⟩
  · have hx : ObjOk X.prog X.w H s.heap dx (.xd fs) := I.hok dx _ hx
    obtain ⟨mA, hns, hr⟩ := hx
    obtain ⟨od, ho, hl⟩ := lookIn_ns hns
    exact ⟨some od, hget, hz.1, by unfold PySem.W.notCls; rw [hv] <;> rfl, by rw [hz.2]; exact ho⟩
/-- isinstance(e, c), e the error at a -/
def rIsX (K : PySem.W.Frag) (a : Addr) (cls : Value) (d : Option Addr) : List V → Hp → VK → Prop := fun xs H Q => ∃ (D : Addr) (c : V) (cv : Value) (b : Bool), xs = [.ref a, c] ∧ cls = .ref D ∧ ExcC K D ∧ ClsV c cv ∧ HasD H d ∧ PySem.W.kitOne K (.ref D) cv = some b ∧ Q (.bl b) H
/-- isinstance(e, (c1, c2, ..)) -/
def rIsXT (K : PySem.W.Frag) (a : Addr) (cls : Value) (d : Option Addr) : List V → Hp → VK → Prop := fun xs H Q => ∃ (D tp : Addr) (cs : List V) (us : List Value) (b : Bool), xs = [.ref a, .ref tp] ∧ cls = .ref D ∧ ExcC K D ∧ H tp = some (.tup cs) ∧ Paired ClsV cs us ∧ HasD H d ∧ PySem.W.kitAny K (.ref D) us = some b ∧ Q (.bl b) H
section
variable {X : Cx} {a : Addr} {oe : Obj} {cls : Value} {d : Option Addr}
theorem call_isX (hp : (a, oe) ∈ X.pn) (hz : Zc cls d oe) (hf : ∃ vs, oe.data = .fields vs) : CallR X (.builtin "isinstance") (rIsX X.K a cls d) := by
  intro pins s σ H xs us Q I r h
  obtain ⟨D, c, cv, b, rfl, rfl, C, k, hd, e, q⟩ := h
  obtain ⟨u1, u2, rfl, r1, r2⟩ := vals2 r
  have e2 := k.eq r2
  subst e2
  cases r1
  obtain ⟨od, J⟩ := exc_inst I hp hz hf hd
  have hcl : (PySem.W.clsIn X.K D).isSome = true := by
    obtain ⟨cd, hc, _⟩ := PySem.W.any_some C.hd
    rw [hc]; rfl
  exact PySem.W.kia_one (PySem.W.kitx_exc (ox := oe) (od := od) hcl C.hg C.hk C.hs C.ha C.hn C.ht C.hm) I.kIn J e (fun z => nomatch z) fun tk => ⟨.bl b, H, I.tok tk, rfl, q⟩
theorem call_isXT (hp : (a, oe) ∈ X.pn) (hz : Zc cls d oe) (hf : ∃ vs, oe.data = .fields vs) : CallR X (.builtin "isinstance") (rIsXT X.K a cls d) := by
  intro pins s σ H xs us Q I r h
  obtain ⟨D, tp, cs, ws, b, rfl, rfl, C, hT, k, hd, e, q⟩ := h
  obtain ⟨u1, u2, rfl, r1, r2⟩ := vals2 r
  cases r1
  cases (show u2 = Value.ref tp from r2)
  obtain ⟨od, J⟩ := exc_inst I hp hz hf hd
  have hcl : (PySem.W.clsIn X.K D).isSome = true := by
    obtain ⟨cd, hc, _⟩ := PySem.W.any_some C.hd
    rw [hc]; rfl
  obtain ⟨_, its, rv, o, h1, h2, n, h3⟩ := (show ObjOk X.prog X.w H s.heap tp (.tup cs) from I.hok tp _ hT)
  have e3 := ClsV.all k rv
  subst e3
  obtain ⟨oc, oda, dt, sl⟩ := o
  simp only at h2 h3
  subst h2 h3
  exact PySem.W.kia_tup (PySem.W.kitx_exc (ox := oe) (od := od) hcl C.hg C.hk C.hs C.ha C.hn C.ht C.hm) I.kIn J h1 e (fun z => nomatch z) fun tk => ⟨.bl b, H, I.tok tk, rfl, q⟩
end

/-! ### a def that is handed the error -/
/-- what it promises: a the error, cls its class, d its dict -/
abbrev SpE := Addr → Value → Option Addr → Sp
structure FnE (P : Program) (w : World) (K : PySem.W.Frag) (mg : Str → Option Value) (base : Heap) (CX : CXT) (k : Nat) (f : Addr) (fd : FuncData) (ps : List Str) (sp : SpE) : Prop where
  len : ∀ a cls d vs H Q E, sp a cls d vs H Q E → vs.length = ps.length
  run : ∀ (A : Around) (outer : List Env) (s : Shared) (H : Hp) (args : Args) (us : List Value) (vs : List V) (Q : VK) (E : XK) (p : Addr × Obj) (cls : Value) (d : Option Addr), L2H.RoomH k A → L2H.PinOk outer H s p → Zc cls d p.2 → (∃ vs, p.2.data = .fields vs) →
    Env0 P w K mg base A outer s H → BindsTo s fd args (ps.zip us) → Vals vs us → sp p.1 cls d vs H Q E → codeAny (model P w) A (.call (.ref f) args) (CR CX outer P w H s Q E) s
section
variable {P : Program} {w : World} {K : PySem.W.Frag} {mg : Str → Option Value} {base : Heap} {CX : CXT} {k : Nat} {f : Addr} {fd : FuncData} {ps : List Str} {sp : SpE}
theorem fn_ofE {name qual : Str} {params : Arguments} {body : List Stmt} {scope : Scope} {dV kV doc pm cdv ct oc : Value} {an od : Option Addr}
    {osl : Array (Option Value)} {N : List Str} (lk : K.lookup f = some ⟨oc, od, .func (PySem.W.fnOf name qual params body scope dV kV doc pm an cdv ct), osl⟩) (hcd : PySem.W.codeIn K cdv qual = true) (S : FnScope N ps scope)
    (len : ∀ a cls d vs H Q E, sp a cls d vs H Q E → vs.length = ps.length)
    (hbody : ∀ (A : Around) (outer : List Env) (s : Shared) (H : Hp) (vs : List V) (Q : VK) (E : XK) (p : Addr × Obj) (cls : Value) (d : Option Addr), Zc cls d p.2 → (∃ vs, p.2.data = .fields vs) → L2H.RoomH k (A.deeper (envOfC qual scope s.heap.objs.size f cdv)) → sp p.1 cls d vs H Q E →
      ∃ t, PSs (L2H.cxH CX P w K mg base N qual scope f cdv A outer s H E p) body t ∧ t { nx := fun _ H' => Q .non H', rt := Q } (L2.start N vs) H) :
    FnE P w K mg base CX (k + 1) f (PySem.W.fnOf name qual params body scope dV kV doc pm an cdv ct) ps sp := by
  refine ⟨len, fun A outer s H args us vs Q E p cls d hr hpin hz hf e0 hb r hsp => ?_⟩
  have hl := len _ _ _ _ _ _ _ hsp
  have KX : K.In s.heap := e0.mod.kin.keeps fun b o e => (e0.bs b o e).1
  have lim : s.heap.NoLimit := e0.mod.nolimit.keeps fun b o e => (e0.bs b o e).1
  have kinds : ∀ y ∈ ps.zip us, scope.names.lookup y.1 = some .local ∨ (scope.names.lookup y.1 = some .cell ∧ ((cellsFrom (s.heap.objs.size + 1) scope.names []).lookup y.1).isSome = true) := fun ⟨n, v⟩ hy => by
    rcases S.par n (List.of_mem_zip hy).1 with q | q
    · exact .inl q
    · exact .inr ⟨q, PySem.W.cellsFrom_some _ _ _ (.inl q)⟩
  refine codeAny_call_function hr.depth (KX _ _ lk) rfl S.co S.gen rfl (PySem.W.codeRec_of KX hcd) (hb _ _ _ _ ?_)
  refine wpAny_newFunctionEnv_cells S.kind kinds fun env he s1 x => ?_
  subst he
  refine ⟨lim.keeps x.toInCall.keep, codeAny_func ?_⟩
  obtain ⟨t, ht, hq⟩ := hbody A outer s H vs Q E p cls d hz hf (hr.deeper _) hsp
  have I : Inv (L2H.cxH CX P w K mg base N qual scope f cdv A outer s H E p) [] (L2.start N vs) H s1 := L2H.inv_startH S hpin e0 hl r x
  refine wpAny_mono (ht.run [] s1 (L2.start N vs) H _ I hq) (fun fl s' hs => ?_) fun e s' hs => hs
  cases fl with
  | next =>
    obtain ⟨σ', H', J, q⟩ := hs
    exact ⟨V.non, H', J.os, J.bare, J.base, J.hok, (rfl : RelV .non Value.none), q⟩
  | ret u =>
    obtain ⟨v, σ', H', J, rv, q⟩ := hs
    exact ⟨v, H', J.os, J.bare, J.base, J.hok, rv, q⟩
  | brk => exact hs.elim fun _ z => z.elim fun _ z => z.2.elim
  | cont => exact hs.elim fun _ z => z.elim fun _ z => z.2.elim
theorem Fun_okE {x qual : Str} {st : Stmt} {N : List Str} (F : Fun K x qual st f fd) (S : FnScope N ps (defScope st)) (len : ∀ a cls d vs H Q E, sp a cls d vs H Q E → vs.length = ps.length)
    (body : ∀ (cdv : Value) (A : Around) (outer : List Env) (s : Shared) (H : Hp) (vs : List V) (Q : VK) (E : XK) (p : Addr × Obj) (cls : Value) (d : Option Addr), Zc cls d p.2 → (∃ vs, p.2.data = .fields vs) →
      L2H.RoomH k (A.deeper (envOfC qual (defScope st) s.heap.objs.size f cdv)) → sp p.1 cls d vs H Q E →
      ∃ t, PSs (L2H.cxH CX P w K mg base N qual (defScope st) f cdv A outer s H E p) (defBody st) t ∧ t { nx := fun _ H' => Q .non H', rt := Q } (start N vs) H) : FnE P w K mg base CX (k + 1) f fd ps sp := by
  obtain ⟨oc, od, kV, doc, pm, an, cdv, ct, osl, rfl, lk, hcd⟩ := F.ex
  exact fn_ofE lk hcd S len fun A outer s H vs Q E p cls d hz hf hr hsp => body cdv A outer s H vs Q E p cls d hz hf hr hsp
end
section
variable {X : Cx} {CX : CXT} {k : Nat} {f : Addr} {fd : FuncData} {ps : List Str} {sp : SpE} {E : XK} {x : Str} {p pos : Pos} {e : Expr} {es : List Expr} {t : TA} {a : Addr} {oe : Obj} {cls : Value} {d : Option Addr}
theorem pe_callE (F : FnE X.prog X.w X.K X.mg X.base CX k f fd ps sp) (hr : L2H.RoomH k X.A) (hp : (a, oe) ∈ X.pn) (hz : Zc cls d oe) (hf : ∃ vs, oe.data = .fields vs) (hg : Gl X x) (hm : X.mg x = some (.ref f)) (hk : PySem.W.keepIn X.K (.ref f) = true) (hb : Binds X.K fd ps []) (hx : Passes CX X E)
    (ha : PA X (e :: es) t) (hdb : (x == ("__debug__" : Str)) = false := by decide) (he : starEach (e :: es) X.env = (false, eval e X.env) :: starEach es X.env := by rfl) (hpl : (backTo pos (starEach es X.env)).any (·.1) = false := by rfl) :
    PE X (.Call (.Name x p) (e :: es) [] pos) (tCall (sp a cls d) [] E t) := by
  refine ⟨fun pins s σ H Q I h => ?_⟩
  refine wpAny_Call_Name_kw (ld_glob I hg hm ?_ hdb)
  refine PySem.W.callWith_K (h₀ := X.base) I.ok.mod.kin hk (thn (ha.run pos pins s σ H _ I h) fun us s1 ⟨vs, H1, I1, r, q⟩ => ⟨I1.kIn, ?_⟩) he hpl
  have q : sp a cls d (vs ++ []) H1 Q E := q
  rw [List.append_nil] at q
  have hl : us.length = ps.length := by rw [← r.length]; exact F.len _ _ _ _ _ _ _ q
  have b := hb s1 us I1.kIn (by rw [List.append_nil]; exact hl)
  rw [List.append_nil] at b
  have P1 := I1.pin (a, oe) (List.mem_append_left _ hp)
  have hpin : L2H.PinOk X.stack H1 s1 (a, oe) := ⟨P1.1, P1.2.1, fun hm => (List.mem_cons.mp (I1.stkSub a hm)).elim P1.2.2.1 P1.2.2.2.1, P1.2.2.2.2⟩
  refine wpAny_call (codeAny_mono (F.run X.A X.stack s1 H1 ⟨us, []⟩ us vs Q E (a, oe) cls d hr hpin hz hf I1.env0 b r q) fun r s' hq => ?_)
  match r, hq with
  | .error e, hq => exact hx pins σ H1 s1 e s' I1 hq
  | .ok (.ret u), hq => exact I1.after hq
end

/-! ### o.m(e, ..) that may raise, in a try -/
def tMethE (C : Addr) (m : Str) (sp : Sp) (E : L2.St → XK) (ta : TE) (t : TA) : TE := fun σ H Q => ta σ H fun x H1 => ∃ a dx fs, x = .ref a ∧ H1 a = some (.ins C dx fs) ∧ fs.lookup m = none ∧ t σ H1 fun vs H2 => sp (x :: vs) H2 Q (E σ)
theorem pe_methE {X : Cx} {CX : CXT} {k : Nat} {C f : Addr} {fd : FuncData} {ps : List Str} {m : Str} {sp : Sp} {E : L2.St → XK} {o e : Expr} {es : List Expr} {ta : TE} {t : TA} {apos pos : Pos} {pl : Sem Bool} (he : PE X o ta) (c : Cls X.K C) (hm : Meth X.K C m f)
    (F : FnOk X.prog X.w X.K X.mg X.base CX k f fd ps sp) (hr : Room k X.A) (hb : Binds X.K fd ps []) (hx : ∀ σ, PassesAt CX X σ (E σ)) (ha : PA X (e :: es) t)
    (hst : starEach (e :: es) X.env = (false, eval e X.env) :: starEach es X.env := by rfl) (hpl : (backTo pos (starEach es X.env)).any (·.1) = false := by rfl)
    (ht : eval (.Call (.Attribute o m apos) (e :: es) [] pos) X.env = (do
      let ov ← eval o X.env
      standAt apos.atName
      let (f, first) ← holding [ov] (getMethod ov m pl)
      callWith pos f first (backTo pos (starEach (e :: es) X.env)) (backToKw pos (keywordEach [] X.env))) := by rfl) :
    PE X (.Call (.Attribute o m apos) (e :: es) [] pos) (tMethE C m sp E ta t) := by
  refine ⟨fun pins s σ H Q I h => ?_⟩
  refine PySem.W.methodCall_KW (pl := pl) (thn (he.run pins s σ H _ I h) fun u s1 ⟨x, H1, I1, rx, a, dx, fs, ex, ea, l, q⟩ => ?_) ht
  subst ex
  obtain rfl : u = Value.ref a := rx
  refine getmeth_ok I1 ea c hm l ?_
  refine PySem.W.callWith_K (first := [.ref a]) (h₀ := X.base) I.ok.mod.kin hm.kp (thn (ha.run pos pins s1 σ H1 _ I1 q) fun us s2 ⟨vs, H2, I2, r, q2⟩ => ⟨I2.kIn, ?_⟩) hst hpl
  exact run_fnS (us := .ref a :: us) (vs := .ref a :: vs) F hr hb (hx σ) I2 (.cons rfl r) q2

/-! ### xs.count(b) of truths -/
theorem vals_bl_eq : ∀ {bs : List Bool} {us : List Value}, Vals (bs.map V.bl) us → us = bs.map Value.bool
  | [], _, .nil => rfl
  | b :: bs, _, .cons r t => by
    rw [vals_bl_eq t]
    cases r
    rfl
def rCntB (K : PySem.W.Frag) : V → List V → Hp → VK → Prop := fun x xs H Q => ∃ (p : Addr) (bs : List Bool) (k : Bool), x = .ref p ∧ xs = [.bl k] ∧ SqL K H p (bs.map V.bl) ∧ Q (.int (bs.count k : Nat)) H
theorem count_bl (k : Bool) : ∀ bs : List Bool, (bs.map Value.bool).countP (PyProof.Rows.isBoolOf k) = bs.count k
  | [] => rfl
  | b :: bs => by
    rw [List.map_cons, List.countP_cons, List.count_cons, count_bl k bs]
    rfl
theorem mt_bcount {X : Cx} : MtR X "list.count" (rCntB X.K) := by
  intro pins s σ H x xs v us Q I rx rxs h
  obtain ⟨p, bs, k, rfl, rfl, hs, q⟩ := h
  cases rx
  obtain ⟨u, rfl, ru⟩ := rxs.one
  cases ru
  obtain ⟨its, rv, ⟨⟨cls, dd, data, sl⟩, n, ho, hc, hdn, hd⟩, hlen⟩ := I.list hs
  simp only at hc hd
  subst hc hd
  have hi := vals_bl_eq rv
  subst hi
  refine call_meets PySem.F.slot_list_count ⟨_, ho, rfl⟩ PySem.F.entry_list_count (PySem.F.args_list_count_2 _ _)
    (SeqAt.list_countAt p (bs.map Value.bool).toArray n dd sl (.bool k) (PyProof.Rows.isBoolOf k)) ⟨ho, fun y hy => ?_, ?_⟩
  · obtain ⟨b, _, rfl⟩ := List.mem_map.mp (show y ∈ bs.map Value.bool by simpa using hy)
    exact SeqAt.EqAt.bool_bool b k
  · refine ⟨.int (bs.count k : Nat), H, I.tok _, ⟨s.toks, ?_⟩, q⟩
    show Value.int (((bs.map Value.bool).toArray.toList.countP (PyProof.Rows.isBoolOf k) : Nat) : Int) s.toks = Value.int ((bs.count k : Nat) : Int) s.toks
    rw [show (bs.map Value.bool).toArray.toList = bs.map Value.bool from rfl, count_bl]
end Rp
/-! rules for an except suite whose readings speak of the outer context -/
namespace Rp
open PySem PySem.Spec PyProof.Rows L2
theorem call_isS {X : Cx} {a : Addr} {oe : Obj} {cls : Value} {d : Option Addr} {pn : List (Addr × Obj)} (hz : Zc cls d oe) (hf : ∃ vs, oe.data = .fields vs) : CallR (X.suite a ((a, oe) :: pn)) (.builtin "isinstance") (rIsX X.K a cls d) :=
  call_isX (X := X.suite a ((a, oe) :: pn)) List.mem_cons_self hz hf
theorem ix_listS {X : Cx} {a : Addr} {pn : List (Addr × Obj)} : IxR (X.suite a pn) (rIxL X.K) := ix_list (X := X.suite a pn)
theorem pe_bmS {X : Cx} {a : Addr} {pn : List (Addr × Obj)} {T id : String} {name : Str} {r : V → List V → Hp → VK → Prop} {o e : Expr} {es : List Expr} {to : TE} {t : TA} {apos cpos : Pos} (pa : PlainAttrs T) (slot : Slot T name id) (hty : typeOf (.builtin id) = pure (.type "method_descriptor")) (hm : MtR (X.suite a pn) id r) (ho : PE (X.suite a pn) o to) (ha : PA (X.suite a pn) (e :: es) t)
    (hbase : attributeBase o name X.env (eval o X.env) = eval o X.env := by rfl)
    (hfew : ((backTo cpos (starEach (e :: es) X.env)).all (fun x => !x.1) && (backToKw cpos (keywordEach [] X.env)).all (fun x => x.1.isSome)
      && decide ((e :: es).length + ([] : List Keyword).length + (if ([] : List Keyword).isEmpty then 0 else 1) < 30)) = true := by rfl)
    (hline : (apos.endLine == cpos.line) = true := by rfl) (hs : starEach (e :: es) X.env = (false, eval e X.env) :: starEach es X.env := by rfl) (hplain : (backTo cpos (starEach es X.env)).any (·.1) = false := by rfl) :
    PE (X.suite a pn) (.Call (.Attribute o name apos) (e :: es) [] cpos) (tBM X.K T r to t) := pe_bm (X := X.suite a pn) pa slot hty hm ho ha hbase hfew hline hs hplain
end Rp
/-! repr of dicts, by the abstract heap: the dict is locked while its parts are told -/
namespace Rp
open PySem PySem.Spec PyProof.Rows L2
theorem pairs_at {P : Program} {w : World} : ∀ {es : List DictEntry} {vs : List (Key × Value)} {kvs : List (Key × V)}, Pairs (mixKind P w) es vs → KV kvs vs → ∀ (i : Nat) (e : DictEntry), es[i]? = some e → ∃ k v, kvs[i]? = some (k, v) ∧ RelV (kV k) e.key ∧ RelV v e.val := by
  intro es
  induction es with
  | nil => intro vs kvs _ _ i e h; cases h
  | cons x es ih =>
    intro vs kvs p r i e h
    cases p with
    | @cons _ kv _ vs' hk hv p' =>
      cases r with
      | @cons q _ qs _ h1 r' =>
        cases i with
        | zero =>
          cases h
          exact ⟨q.1, q.2, rfl, h1.1 ▸ relV_key hk, hv ▸ h1.2⟩
        | succ j =>
          exact ih p' r' j e h
section
variable {X : Cx} {n : Nat} {as : List Addr} {H : Hp} {a : Addr} {kvs : List (Key × V)} {ts : List Str} {base : Nat} {g : List Code} {A : Around} {pins : List (Addr × Obj)} {σ : L2.St}
/-- what is told of the parts, the dict locked -/
def Parts (X : Cx) (n : Nat) (as : List Addr) (H : Hp) (kvs : List (Key × V)) (ts : List Str) : Prop := ts.length = kvs.length ∧ ∀ (i : Nat) (k : Key) (v : V), kvs[i]? = some (k, v) → ∃ t1 t2 : Str, ts[i]? = some (t1 ++ ": " ++ t2) ∧ Says X n as H (kV k) t1 ∧ Says X n as H v t2
theorem dict_body {id : String} {rest : List Value} {od : Obj} (lo : Low X (n + 1) g A) (hcl : ∀ b ∈ a :: as, Clear g b) (hna : a ∉ as) (hp : Parts X n as H kvs ts)
    (hsz : base + (dictText ts).length ≤ sizeLine) (hq : H a = some (.frz od (.dK kvs))) {s : Shared} {H1 : Hp} (I : Inv X pins σ H1 s) (hs : Same H H1) {R : Result → Shared → Prop}
    (hg : (Code.builtin id ⟨.ref a :: rest, []⟩).guards = [Code.builtin id ⟨.ref a :: rest, []⟩]) (hw : (Code.builtin id ⟨.ref a :: rest, []⟩).weight = 1) (hu : (Code.builtin id ⟨.ref a :: rest, []⟩).cUnits = 1) (he : (Code.builtin id ⟨.ref a :: rest, []⟩).envs = [])
    (fin : ∀ s H2 u, Inv X pins σ H2 s → Same H1 H2 → R (.ok (.ret (.str (dictText ts) u))) s) (bad : ∀ e s, X.xe e s → R (.error e) s) :
    wpOwn (model X.prog X.w) A (.builtin id ⟨.ref a :: rest, []⟩) (Builtin.dictReprAt base ⟨[.ref a], []⟩) (fun fin s' => match fin with | .done f => R (.ok f) s' | .again c' => c'.quiet = true ∧ codeAny (model X.prog X.w) A c' R s') (fun e s' => R (.error e) s') s := by
  obtain ⟨hl, hit⟩ := hp
  obtain ⟨sys, ho, hx, es, ep, vs, hd, len, kv, _, es2, ho2, _, hd2, _, pr, _⟩ := I.frzK (hs _ _ hq)
  cases ho.symm.trans ho2
  cases hd.symm.trans hd2
  have ent := pairs_at pr kv
  have still : ∀ {H2 : Hp} {s2 : Shared}, Inv X pins σ H2 s2 → Same H1 H2 → s2.heap.get? a = some od := fun {H2 s2} I2 e2 => (I2.frzK (e2 _ _ (hs _ _ hq))).2.1
  have ty : s.TypeIs (.ref a) "dict" := ⟨od, ho, hx.1⟩
  have big := piled_le_dictText ts
  have small : (dictText ts).length ≤ sizeLine := by omega
  have lts : ts.length = es.size := by omega
  unfold Builtin.dictReprAt Builtin.Dict.dictSlotNone
  refine wpOwn_bind (wpOwn_of_wpAny (wpAny_bind (wpAny_notOrdered_dict ty ?_)))
  show wpAny (model X.prog X.w) _ (pure (Value.ref a)) _ _ s
  refine wpAny_pure ?_
  rw [dictReprRunning_eq]
  refine wpOwn_bind (wpOwn_stackTailAny lo.gd (dictGuardF_off _) (dictGuardF_pos _) ?_)
  have none_ : (g.any fun c => dictGuardF (.ref a) (c, default)) = false := List.any_eq_false.mpr fun c hc => by
    rw [dictGuardF_of_clear (hcl a List.mem_cons_self) c hc]
    exact Bool.false_ne_true
  rw [none_]
  refine wpOwn_of_wpAny ?_
  have lo2 := lo.guard hg hw hu he
  have cl2 : ∀ b ∈ as, Clear (Code.builtin id ⟨.ref a :: rest, []⟩ :: g) b := fun b hb => (hcl b (List.mem_cons_of_mem _ hb)).cons (a := a) fun e => hna (e ▸ hb)
  show wpAny (model X.prog X.w) _ (Builtin.Dict.addrOf (.ref a) >>= _) _ _ s
  refine wpAny_bind (wpAny_pure ?_)
  show wpAny (model X.prog X.w) _ (Builtin.Dict.showsAll a >>= _) _ _ s
  unfold Builtin.Dict.showsAll
  rw [sys]
  refine wpAny_bind (wpAny_pure (wpAny_bind (wpAny_dictEpoch ho hd (wpAny_bind (wpAny_dictEntries ho hd (wpAny_bind ?_))))))
  rw [Std.Legacy.Range.forIn_eq_forIn_range']
  simp only [Std.Legacy.Range.size, Nat.sub_zero, Nat.add_sub_cancel, Nat.div_one]
  refine wpAny_mono (E := X.xe) (wpAny_forIn_list _ (fun l r s2 => ∃ i H2, l = List.range' i (es.size - i) ∧ i ≤ es.size ∧ r = (⟨(ts.take i).toArray, base + piled (ts.take i)⟩ : (Array Str × Nat)) ∧ Inv X pins σ H2 s2 ∧ Same H1 H2)
    (fun r s2 => ∃ H2, r = (⟨ts.toArray, base + piled ts⟩ : (Array Str × Nat)) ∧ Inv X pins σ H2 s2 ∧ Same H1 H2) ?_ ?_ _ _ ⟨0, H1, by simp, Nat.zero_le _, by simp [piled], I, Same.refl _⟩) (fun r s2 k => ?_) fun e s2 k => bad e s2 k
  · rintro x l _ s2 ⟨i, H2, hr, hi, rfl, I2, e2⟩
    have lt : i < es.size := by
      rcases Nat.lt_or_ge i es.size with z | z
      · exact z
      · rw [Nat.sub_eq_zero_of_le z] at hr; cases hr
    have step : es.size - i = (es.size - (i + 1)) + 1 := by omega
    rw [step, List.range'_succ] at hr
    injection hr with h1 h2
    subst h1 h2
    have ge : es.toList[x]? = some es[x] := by simp [lt]
    obtain ⟨k, v, gk, rk, rv⟩ := ent x _ ge
    obtain ⟨t1, t2, gt, sk, sv⟩ := hit x k v gk
    have l3 : (t1 ++ ": " ++ t2 : Str).length = t1.length + 2 + t2.length := by rw [strLen_append, strLen_append]; rfl
    have p1 := piled_take_succ gt
    have p2 := piled_take_le ts (x + 1)
    rw [l3] at p1
    refine wpAny_bind (wpAny_dictEntries (still I2 e2) hd ?_)
    rw [Array.getElem?_eq_getElem lt]
    refine wpAny_bind (wpAny_holding (wpAny_bind (wpAny_mono (sk.und _ _ (base + piled (ts.take x) + 1) pins s2 σ H2 _ lo2 cl2 I2 (hs.trans e2) rk (by omega)) (fun r3 s3 k3 => ?_) fun _ _ q => q)))
    obtain ⟨rfl, H3, I3, e3⟩ := k3
    refine wpAny_bind (wpAny_mono (sv.und _ _ (base + piled (ts.take x) + (r3.length + 3)) pins s3 σ H3 _ lo2 cl2 I3 (hs.trans (e2.trans e3)) rv (by omega)) (fun r4 s4 k4 => ?_) fun _ _ q => q)
    obtain ⟨rfl, H4, I4, e4⟩ := k4
    have e5 := e2.trans (e3.trans e4)
    refine wpAny_pure (wpAny_bind (wpAny_dictEpoch (still I4 e5) hd ?_))
    rw [if_neg (by simp)]
    refine wpAny_pure ⟨x + 1, H4, rfl, lt, ?_, I4, e5⟩
    have q1 : (ts.take x).toArray.push (r3 ++ ": " ++ r4) = (ts.take (x + 1)).toArray := by simp [List.take_add_one, gt]
    have q2 : base + piled (ts.take x) + (r3.length + r4.length + 4) = base + piled (ts.take (x + 1)) := by omega
    rw [q1, q2]
  · rintro r s2 ⟨i, H2, hr, hi, rfl, I2, e2⟩
    have ei : i = ts.length := by
      rcases Nat.lt_or_ge i es.size with z | z
      · have step : es.size - i = (es.size - (i + 1)) + 1 := by omega
        rw [step, List.range'_succ] at hr; cases hr
      · omega
    rw [ei, List.take_length]
    exact ⟨H2, rfl, I2, e2⟩
  · obtain ⟨H2, rfl, I2, e2⟩ := k
    refine wpAny_bind (wpAny_mkStr (wpAny_pure ?_) (by simpa [dictText] using small))
    have q := fin _ H2 s2.toks (I2.tok (s2.toks + 1)) e2
    simpa [dictText] using q
theorem same_over {H1 : Hp} {u : HO} (e : Same H H1) : Same (upd H a u) (upd H1 a u) := fun y o h => by
  by_cases z : y = a
  · rw [z, upd_same] at h ⊢
    exact h
  · rw [upd_ne z] at h ⊢
    exact e _ _ h
theorem says_dict (hq : H a = some (.dK kvs)) (hna : a ∉ as) (hp : ∀ od, Parts X n as (upd H a (.frz od (.dK kvs))) kvs ts) : Says X (n + 2) (a :: as) H (.ref a) (dictText ts) := by
  have mu : Mut (some (.dK kvs)) := trivial
  have open_ : ∀ {H1 H2 : Hp} {od : Obj}, Same H H1 → Same (upd H1 a (.frz od (.dK kvs))) H2 → Same H1 (upd H2 a (.dK kvs)) := fun {H1 H2 od} e e2 y o h => by
    by_cases z : y = a
    · rw [z, e _ _ hq] at h
      rw [z, upd_same]
      exact h
    · rw [upd_ne z]
      exact e2 _ _ (by rw [upd_ne z]; exact h)
  refine ⟨fun A g base pins s σ H1 u lo cl I hs ru hz => ?_, fun A g pins s σ H1 u lo cl I hs ru hz => ?_⟩
  all_goals
    cases ru
    have h1 := hs _ _ hq
    have hn := I.nofrz h1 mu
    obtain ⟨od, IL⟩ := I.lock h1 mu
    obtain ⟨_, ho, hx, _⟩ := IL.frzK upd_same
    have ps : Parts X n as (upd H1 a (.frz od (.dK kvs))) kvs ts := ⟨(hp od).1, fun i k v hv => let ⟨t1, t2, a1, a2, a3⟩ := (hp od).2 i k v hv; ⟨t1, t2, a1, a2.grow (same_over hs), a3.grow (same_over hs)⟩⟩
  · refine wpAny_pyReprUnder_ref (by omega) (wpAny_pyReprObjUnder_twin (twin := "dict.__repr__.under") ⟨od, ho, hx.1⟩ PySem.F.slot_dict_repr rfl lo.rm.units0
      (call_twin_own (PySem.F.quiet_dict_repr_under _) PySem.F.entry_dict_repr_under PySem.F.check_dict_repr_under ⟨od, ho, hx.1⟩ PySem.F.slot_dict_repr (PySem.F.args_dict_repr_1 _)
        (dict_body (R := callEnd _ _) (lo.mono (by omega)) cl hna ps hz upd_same IL (Same.refl _) (by show (if Code.isGuard _ then _ else _) = _; rw [isGuard_dict_repr_under]; rfl) (by simp only [Code.weight, isGuard_dict_repr_under]; rfl) (by rfl) (by first | rfl | simp [Code.envs, Code.isFrame])
          (fun s2 H2 tk I2 e2 => ⟨⟨_, _, rfl⟩, _, _, rfl, rfl, _, I2.unlock (e2 _ _ upd_same) hn, open_ hs e2⟩) fun e s2 he => he)))
  · have h2 := lo.rm.units
    refine call_repr_slot (by omega) ⟨od, ho, hx.1⟩ PySem.F.slot_dict_repr (wpAny_call (codeAny_call_builtin_own (Code.quiet_builtin _ (by decide +kernel)) PySem.F.entry_dict_repr (PySem.F.slot_dict_repr.check _ _ _ _ _ _ _ _ ⟨od, ho, hx.1⟩ (PySem.F.args_dict_repr_1 _)
      (dict_body (A := A.in1) (base := 0) (R := callEnd _ _) lo.in1 cl hna ps (by omega) upd_same IL (Same.refl _) (by show (if Code.isGuard _ then _ else _) = _; rw [isGuard_dict_repr]; rfl) (by simp only [Code.weight, isGuard_dict_repr]; rfl) (by rfl) (by first | rfl | simp [Code.envs, Code.isFrame])
        (fun s2 H2 tk I2 e2 => ⟨_, _, rfl, ⟨_, rfl⟩, _, I2.unlock (e2 _ _ upd_same) hn, open_ hs e2⟩) fun e s2 he => he))))
end
end Rp
/-! several except clauses that each keep the exception by a name; nothing else comes out of the body -/
namespace Rp
open PySem PySem.Spec PyProof.Rows L2
/-- the wish of the clauses, made one by one of the wish of a single one -/
inductive Named (X : Cx) : List ExceptHandler → (Ends → WX) → Prop
  | none : Named X [] (fun _ _ _ _ _ => False)
  | more {x n : Str} {c : Value} {i : Nat} {ts : Addr → Value → Option Addr → TS} {st : Stmt} {suite : List Stmt} {np p : Pos} {hds : List ExceptHandler} {f : Ends → WX} (hi : X.N[i]? = some n) (hl : X.env.kindOf n = some .local) (hc : Names X x c)
      (hsu : ∀ (a : Addr) (oe : Obj) (cls : Value) (d : Option Addr) (pn : List (Addr × Obj)), Zc cls d oe → (∃ vs, oe.data = .fields vs) → PSs (X.suite a ((a, oe) :: pn)) (st :: suite) (ts a cls d)) (r : Named X hds f) :
      Named X (.ExceptHandler (some (.Name x np)) (some n) (st :: suite) p :: hds) (fun D => wAs X.K c i ts (f D) D)
/-- no frame is a record -/
theorem no_frame {h B : Heap} {l : List Env} {a : Addr} {o : Obj} {vs : Array Value} (ff : h.FunFrames B l) (ha : h.get? a = some o) (hd : o.data = .fields vs) : a ∉ frs l := by
  intro z
  have ⟨_, o2, g2, nf⟩ := ff.mem z
  cases ha.symm.trans g2
  exact nf _ hd
section
variable {X : Cx} {hds : List ExceptHandler} {f : Ends → WX} {D : Ends} {pins : List (Addr × Obj)} {σ : L2.St} {H : Hp} {a : Addr} {B : Heap} {cls : Value} {d : Option Addr} {s0 s : Shared}
theorem clauses (hh : Named X hds f) (hf : X.env.frame = some X.env.locals) (hN : X.N.Nodup) (I : Inv X pins σ H s0) (ok : X.Ok) (nb : ∀ b o, s0.heap.get? b = some o → b ∉ frs X.stack → B.get? b = some o) (hs : X.stack = X.env :: X.outer)
    (fl : HandSPX.FlyingZ B (X.env :: X.outer) a (Zc cls d) s.heap) (up : s0.heap.UpToSlots s.heap) (na : H a = none) (os : s.os = s0.os) (ag : AllBare s.gens) (w : f D cls d σ H) :
    wpAny (model X.prog X.w) X.A (handleBy (.ref a) X.env hds) (SP X pins D) X.xe s := by
  induction hh with
  | none => exact w.elim
  | @more x n c i ts st suite np p rest g hi hl hc hsu r ih =>
    have ⟨b, eb, yes, no⟩ := w
    have fine : ∀ {h : Heap}, HandSPX.FlyingZ B (X.env :: X.outer) a (Zc cls d) h → s0.heap.UpToSlots h → ∃ oe, h.get? a = some oe ∧ Zc cls d oe ∧ (∃ vs, oe.data = .fields vs) ∧ Inv (X.suite a ((a, oe) :: (X.pn ++ pins))) [] σ H { s with heap := h } := by
      intro h F U
      obtain ⟨oe, vs, ge, ze, de⟩ := F.there
      have out := no_frame F.2.2.1 ge de
      have at_ : ∀ e ∈ X.env :: X.outer, ∀ q, e.frame = some q → a ≠ q := fun e he q hq z => out (List.mem_filterMap.mpr ⟨e, he, by rw [hq, z]⟩)
      refine ⟨oe, ge, ze, ⟨vs, de⟩, (I.landed (s' := { s with heap := h }) nb F.1 U os ag).suite ge de na (at_ _ List.mem_cons_self _ hf) fun hm => ?_⟩
      obtain ⟨e, he, q⟩ := List.mem_filterMap.mp hm
      exact at_ e (List.mem_cons_of_mem _ he) _ q rfl
    obtain ⟨oe, ge, ze, _, S⟩ := fine fl up
    refine wpAny_handleBy_cons (codeAny_handlers_test ?_) (fun z => by cases z)
    have kind : PySem.W.Looks (model X.prog X.w) s.heap (typeOf (.ref a)) cls := fun A Q E s' k q => wpAny_typeOf_ref (k _ _ ge) (ze.1.symm ▸ q)
    have look := PySem.W.exm_one (M := model X.prog X.w) S.kIn kind eb
    have name : ∀ {Q E : Value → Shared → Prop}, Q c s → wpAny (model X.prog X.w) (X.A.mark (some (.ref a))) (eval (.Name x np) X.env) Q E s := by
      intro Q E q
      rcases hc with ⟨g1, g2, g3 | ⟨g3, g4, g5⟩⟩
      · exact ld_glob (X := X.suite a ((a, oe) :: (X.pn ++ pins))) S g1 g3 q g2
      · exact ld_blt (X := X.suite a ((a, oe) :: (X.pn ++ pins))) S g1 g3 g4 q g5 g2
    refine name (look.here ?_)
    cases b
    · show wpAny (model X.prog X.w) X.A (handleBy (.ref a) X.env rest) (SP X pins D) X.xe s
      exact ih (no rfl)
    · refine codeAny_handlers_suite_as (HandSPX.lands_againZ fl fun h2 fl2 up2 => ?_)
      obtain ⟨o2, g2, z2, f2, S2⟩ := fine fl2 (up.trans up2)
      refine store_ok (X := X.suite a ((a, o2) :: (X.pn ++ pins))) (v := .ref a) S2 hN hi (.inl hl) rfl (fun s3 S3 => ?_) (.inr hl)
      refine wpAny_mono ((hsu a o2 cls d _ z2 f2).run [] s3 _ H _ S3 (yes rfl a na)) (fun fw s4 k => ?_) (fun _ _ z => False.elim z)
      have bye : ∀ {σ4 : L2.St} {H4 : Hp} {Q : Shared → Prop}, Inv (X.suite a ((a, o2) :: (X.pn ++ pins))) [] σ4 H4 s4 → (∀ s5, Inv X pins (σ4.set i none) H4 s5 → Q s5) →
          wpAny (model X.prog X.w) X.A (do bindName X.env n .none; unbindBehindTheSuite X.env n p) (fun _ s5 => Q s5) X.xe s4 := fun S4 hq => gone_ok (S4.unsuite ok) hN hi hl hq
      rcases fw with _ | u | _ | _
      · have ⟨σ4, H4, S4, q4⟩ := k
        exact bye S4 fun _ J => ⟨_, _, J, q4⟩
      · first
          | (have ⟨v, σ4, H4, S4, r4, q4⟩ := k; exact bye S4 fun _ J => ⟨_, _, _, J, r4, q4⟩)
          | (have ⟨σ4, H4, S4, q4⟩ := k; exact bye S4 fun _ J => ⟨_, _, J, q4⟩)
      all_goals
        first
          | (have ⟨σ4, H4, S4, q4⟩ := k; exact bye S4 fun _ J => ⟨_, _, J, q4⟩)
          | (have ⟨v, σ4, H4, S4, r4, q4⟩ := k; exact bye S4 fun _ J => ⟨_, _, _, J, r4, q4⟩)
theorem ps_try_named {body : List Stmt} {h₀ : ExceptHandler} {pos : Pos} {tb : WX → TS} (hs : X.stack = X.env :: X.outer) (hf : X.env.frame = some X.env.locals) (hN : X.N.Nodup)
    (hb : ∀ (W : WX) (pn : List (Addr × Obj)) (xe : Value → Shared → Prop), Takes (X.tr pn xe) W → PassesOwn (model X.prog X.w) X.A X.env xe → PSs (X.tr pn xe) body (tb W)) (hh : Named X (h₀ :: hds) f) :
    PS X (.Try body (h₀ :: hds) [] [] pos) (fun D σ H => tb (f D) D σ H) := by
  refine ⟨fun pins s σ H D I h => wpAny_Try_except ?_⟩
  have ok := I.ok
  refine wpAny_mono ((hb (f D) (X.pn ++ pins) _ (fun u s' z => ?_) PassesOwn.looking).run [] s σ H D (I.toTry _) h) (fun fw s1 k => ?_) fun _ _ q => q
  · obtain ⟨a, B, s0, pins', σ', H', cls, d, rfl, J, nb, up, sky, na, os, ag, w⟩ := z
    have J := J.ofTry ok
    have sky2 : Sky B (X.env :: X.outer) a (Zc cls d) X.env.locals s'.heap := hs ▸ sky
    exact sky2.land Zc.steady (ok.frames.trans (congrArg some hs)) hf fun h2 fl up2 => clauses (s := { s' with heap := h2 }) hh hf hN J ok nb hs fl (up.trans up2) na os ag w
  · rcases fw with _ | u | _ | _
    · have ⟨σ', H', J, q⟩ := k
      exact wpAny_execs_nil ⟨σ', H', J.ofTry ok, q⟩
    all_goals
      first
        | (have ⟨σ', H', J, q⟩ := k; exact ⟨σ', H', J.ofTry ok, q⟩)
        | (have ⟨v, σ', H', J, r, q⟩ := k; exact ⟨v, σ', H', J.ofTry ok, r, q⟩)
end
end Rp
/-! an instance whose __init__ may raise, within a try -/
namespace Rp
open PySem PySem.Spec PyProof.Rows L2
section
variable {X : Cx} {CX : CXT} {k : Nat} {f C : Addr} {fd : FuncData} {ps : List Str} {sp : Sp} {E : L2.St → XK} {x : Str} {p pos : Pos} {e : Expr} {es : List Expr} {t : TA}
theorem made_here {pins : List (Addr × Obj)} {σ : L2.St} {H : Hp} {s : Shared} {Q : VK} {us : List Value} {vs : List V} (M : Mk X.K C f) (F : FnOk X.prog X.w X.K X.mg X.base CX k f fd ps sp) (hr : Room (k + 1) X.A) (hb : Binds X.K fd ps []) (hx : PassesAt CX X σ (E σ))
    (I : Inv X pins σ H s) (r : Vals vs us) (h : ∀ x dx, H x = none → H dx = none → dx ≠ x → sp (.ref x :: vs) (upd (upd H dx (.own x)) x (.ins C dx [])) (fun v H2 => v = .non ∧ Q (.ref x) H2) (E σ)) :
    wpAny (model X.prog X.w) X.A (call (.ref C) us) (EP X pins σ Q) X.xe s := by
  have I' := Inv.made (C := C) I
  have rs : Vals (V.ref (s.heap.objs.size + 1) :: vs) (Value.ref (s.heap.objs.size + 1) :: us) := .cons rfl r
  have hsp := h (s.heap.objs.size + 1) s.heap.objs.size (I.hok.fresh (Nat.le_add_right _ _)) (I.hok.fresh (Nat.le_refl _)) (Nat.ne_of_lt (Nat.lt_succ_self _))
  have many : (Value.ref (s.heap.objs.size + 1) :: us).length = ps.length := rs.length ▸ F.len _ _ _ _ hsp
  have bt := hb _ _ I'.kIn (by rw [List.append_nil]; exact many)
  rw [List.append_nil] at bt
  refine wpAny_call (make_map (f := f) I.kIn M.makes M.init (beq_iff_eq.mp M.fn) (codeAny_mono (F.run _ X.stack _ _ _ _ _ _ (E σ) (hr.make C us []) (I'.env0.make C us []) bt rs hsp) fun out s2 k2 => ?_))
  rcases out with er | fl
  rotate_left
  · cases fl with
    | ret u =>
      obtain ⟨v, H2, I2, rv, rfl, q⟩ := I'.after k2
      exact ⟨rv, V.ref (s.heap.objs.size + 1), H2, I2, rfl, q⟩
    | next => exact k2.elim
    | brk => exact k2.elim
    | cont => exact k2.elim
  · exact hx pins _ _ er s2 I' k2
def tMakeS (C : Addr) (sp : Sp) (E : L2.St → XK) (t : TA) : TE := fun σ H Q => t σ H fun vs H1 => ∀ x dx, H1 x = none → H1 dx = none → dx ≠ x →
  sp (.ref x :: vs) (upd (upd H1 dx (.own x)) x (.ins C dx [])) (fun v H2 => v = .non ∧ Q (.ref x) H2) (E σ)
theorem pe_makeS (M : Mk X.K C f) (F : FnOk X.prog X.w X.K X.mg X.base CX k f fd ps sp) (hr : Room (k + 1) X.A) (hg : Gl X x) (hm : X.mg x = some (.ref C)) (hb : Binds X.K fd ps []) (hx : ∀ σ, PassesAt CX X σ (E σ))
    (ha : PA X (e :: es) t) (hdb : (x == ("__debug__" : Str)) = false := by decide) (he : starEach (e :: es) X.env = (false, eval e X.env) :: starEach es X.env := by rfl) (hpl : (backTo pos (starEach es X.env)).any (·.1) = false := by rfl) :
    PE X (.Call (.Name x p) (e :: es) [] pos) (tMakeS C sp E t) :=
  ⟨fun pins s σ H Q I h => wpAny_Call_Name_kw (ld_glob I hg hm (PySem.W.callWith_K (h₀ := X.base) I.ok.mod.kin M.kp (thn (ha.run pos pins s σ H _ I h) fun us s1 ⟨vs, H1, I1, r, q⟩ => ⟨I1.kIn, made_here M F hr hb (hx σ) I1 r q⟩) he hpl) hdb)⟩
end
end Rp
namespace K
open PySem L2 Rp
/-! ### the text by places -/
def top (i : Nat) : Stmt := PySem.Challenge.pw_casknotes_k03_weights_made.main.body.getD i (.Pass ⟨0, 0, 0, 0⟩)
abbrev sShow : Stmt := top 24
abbrev sWhole : Stmt := top 26
abbrev sInit : Stmt := inClass (top 28) 0
abbrev sRepr : Stmt := inClass (top 28) 3
abbrev sDeck : Stmt := top 30
abbrev sDraw : Stmt := top 31
abbrev sLWhole : Stmt := top 32
abbrev sDiv : Stmt := top 33
abbrev sTwo : Stmt := top 34
abbrev sLow : Stmt := top 35
abbrev sIs : Stmt := top 36
abbrev sOdd : Stmt := top 37
abbrev sMarks : Stmt := top 38
abbrev sHeard : Stmt := top 39
abbrev sRight : Stmt := top 40
abbrev sPairs : Stmt := top 41
abbrev sLaw : Stmt := top 42

/-! ### decks -/
def DeckAt (H : Hp) (d : Addr) : Prop := ∃ a b c : Int, H d = some (.lst [.int a, .int b, .int c])

/-! ### promises -/
def spWhole (K : PySem.W.Frag) : Sp := fun vs H Q _ => ∃ n : Int, vs = [.int n] ∧ Q (.bl true) H
/-- a whole number, or not -/
def isW : V → Bool
  | .int _ => true
  | _ => false
/-- a value whose kind is known -/
def Wh (K : PySem.W.Frag) (H : Hp) (v : V) : Prop := ∃ tv b1 b2, TyX K H v tv ∧ PySem.W.kitOne K tv (.type "int") = some b1 ∧ PySem.W.kitOne K tv (.type "bool") = some b2 ∧ isW v = (b1 && !b2)
theorem wh_int {K : PySem.W.Frag} {H : Hp} {i : Int} : Wh K H (.int i) := ⟨_, true, false, .base (.int i), kit_ty (by decide +kernel), kit_ty (by decide +kernel), rfl⟩
def spWholeV (K : PySem.W.Frag) : Sp := fun vs H Q _ => ∃ v : V, vs = [v] ∧ Wh K H v ∧ Q (.bl (isW v)) H
def spDeck : Sp := fun vs H Q _ => ∃ n : Int, vs = [.int n] ∧ ∀ p, H p = none → ∀ H', DeckAt H' p → (∀ b, b ≠ p → H' b = H b) → Q (.ref p) H'
def spDraw : Sp := fun vs H Q _ => ∃ (d : Addr) (m : Int), vs = [.ref d, .int m] ∧ 0 < m ∧ m < 1073741824 ∧ DeckAt H d ∧ ∀ r : Int, 0 ≤ r → r < m → ∀ H', DeckAt H' d → (∀ b, b ≠ d → H' b = H b) → Q (.int r) H'

/-- what the built-in names hold -/
structure Blt (mg : Str → Option Value) : Prop where
  isi : mg "isinstance" = none
  int : mg "int" = none
  bool : mg "bool" = none

section
variable {P : Program} {w : World} {K : PySem.W.Frag} {mg : Str → Option Value} {base : Heap}
theorem scWhole : FnScope ["thing"] ["thing"] (defScope sWhole) := ⟨rfl, rfl, rfl, by decide +kernel, rfl, by decide +kernel, by decide +kernel⟩
theorem ok_wholeV {f : Addr} {fd : FuncData} (F : Fun K "is_whole" "is_whole" sWhole f fd) (B : Blt mg) : FnOk P w K mg base CX0 1 f fd ["thing"] (spWholeV K) := by
  refine F.ok scWhole (fun vs H Q E h => ?_) (fun cdv A outer s H vs Q E hr h => ?_)
  · obtain ⟨v, rfl, _⟩ := h
    rfl
  · obtain ⟨v, rfl, ⟨tv, b1, b2, ty, k1, k2, ev⟩, k⟩ := h
    refine ⟨_, pss_one (ps_ret (pe_and (pe_callB call_isi (by rfl) B.isi (by decide +kernel) (pa_cons (pv 0) (pa_cons (pe_bltn (v := .ty "int") (by rfl) B.int (by decide +kernel) rfl) pa_nil)))
      (pe_one (pe_not (pe_callB call_isi (by rfl) B.isi (by decide +kernel) (pa_cons (pv 0) (pa_cons (pe_bltn (v := .ty "bool") (by rfl) B.bool (by decide +kernel) rfl) pa_nil))))))), ?_⟩
    refine ⟨_, rfl, _, .ty "int", _, _, b1, rfl, .ty _, ty, k1, b1, rfl, ?_⟩
    cases b1 with
    | true =>
      refine iteT ⟨_, rfl, _, .ty "bool", _, _, b2, rfl, .ty _, ty, k2, b2, rfl, ?_⟩
      rw [ev] at k
      exact k
    | false =>
      rw [ev] at k
      exact k
theorem scLWhole : FnScope ["_law_thing"] ["_law_thing"] (defScope sLWhole) := ⟨rfl, rfl, rfl, by decide +kernel, rfl, by decide +kernel, by decide +kernel⟩
theorem ok_lwholeV {f : Addr} {fd : FuncData} (F : Fun K "_law_whole" "_law_whole" sLWhole f fd) (B : Blt mg) : FnOk P w K mg base CX0 1 f fd ["_law_thing"] (spWholeV K) := by
  refine F.ok scLWhole (fun vs H Q E h => ?_) (fun cdv A outer s H vs Q E hr h => ?_)
  · obtain ⟨v, rfl, _⟩ := h
    rfl
  · obtain ⟨v, rfl, ⟨tv, b1, b2, ty, k1, k2, ev⟩, k⟩ := h
    refine ⟨_, pss_one (ps_ret (pe_and (pe_callB call_isi (by rfl) B.isi (by decide +kernel) (pa_cons (pv 0) (pa_cons (pe_bltn (v := .ty "int") (by rfl) B.int (by decide +kernel) rfl) pa_nil)))
      (pe_one (pe_not (pe_callB call_isi (by rfl) B.isi (by decide +kernel) (pa_cons (pv 0) (pa_cons (pe_bltn (v := .ty "bool") (by rfl) B.bool (by decide +kernel) rfl) pa_nil))))))), ?_⟩
    refine ⟨_, rfl, _, .ty "int", _, _, b1, rfl, .ty _, ty, k1, b1, rfl, ?_⟩
    cases b1 with
    | true =>
      refine iteT ⟨_, rfl, _, .ty "bool", _, _, b2, rfl, .ty _, ty, k2, b2, rfl, ?_⟩
      rw [ev] at k
      exact k
    | false =>
      rw [ev] at k
      exact k
theorem FnOk.ints {n : Nat} {f : Addr} {fd : FuncData} {x : Str} (F : FnOk P w K mg base CX0 n f fd [x] (spWholeV K)) : FnOk P w K mg base CX0 n f fd [x] (spWhole K) :=
  F.imp fun vs H Q E h => let ⟨i, e, q⟩ := h; ⟨.int i, e, wh_int, q⟩
end
end K
namespace K
open PySem L2 Rp
section
variable {P : Program} {w : World} {K : PySem.W.Frag} {mg : Str → Option Value} {base : Heap}
theorem scDeck : FnScope ["_law_cell"] ["_law_cell"] (defScope sDeck) := ⟨rfl, rfl, rfl, by decide +kernel, rfl, by decide +kernel, by decide +kernel⟩
theorem ok_deck {f : Addr} {fd : FuncData} (F : Fun K "_law_deck" "_law_deck" sDeck f fd) (B : Blt mg) : FnOk P w K mg base CX0 1 f fd ["_law_cell"] spDeck := by
  refine F.ok scDeck (fun vs H Q E h => ?_) (fun cdv A outer s H vs Q E hr h => ?_)
  · obtain ⟨n, rfl, _⟩ := h
    rfl
  · obtain ⟨n, rfl, k⟩ := h
    refine ⟨_, pss_one (ps_ret (pe_lst (pa_cons (pe_op op_mul (pv 0) (pe_callTy call_int1 (by rfl) B.int (by decide +kernel) (pa_cons (pe_cmpR op_ge (pv 0) (pe_op op_pow pe_int pe_int) (nomark _)) pa_nil)))
      (pa_cons (pe_op op_mod (pv 0) pe_int) (pa_cons pe_int pa_nil))))), ?_⟩
    refine ⟨_, rfl, _, rfl, _, _, rfl, rfl, (by show (0:Int) ≤ 18 ∧ (18:Int) ≤ 1000000 ∧ (10:Int).natAbs < 2 ^ 64; decide), _, _, rfl, rfl, .inr ⟨_, rfl, ?_⟩⟩
    refine ⟨_, _, rfl, rfl, .inr (by split <;> decide), ?_⟩
    refine ⟨_, rfl, _, _, rfl, rfl, (by show (0:Int) < 2147483587; decide), ?_⟩
    refine ⟨(by show 3 ≤ sizeLine; decide), fun p hp => ?_⟩
    exact k p hp _ ⟨_, _, _, upd_same⟩ fun b hb => upd_ne hb
theorem scDraw : FnScope ["_law_deck_here", "_law_most", "_law_got", "_law_mixed"] ["_law_deck_here", "_law_most"] (defScope sDraw) := ⟨rfl, rfl, rfl, by decide +kernel, rfl, by decide +kernel, by decide +kernel⟩
theorem ix3 {a b c : V} : atI [a, b, c] (0 : Int) = some a ∧ atI [a, b, c] (1 : Int) = some b ∧ atI [a, b, c] (2 : Int) = some c := ⟨rfl, rfl, rfl⟩
theorem ok_draw {f : Addr} {fd : FuncData} (F : Fun K "_law_draw" "_law_draw" sDraw f fd) : FnOk P w K mg base CX0 1 f fd ["_law_deck_here", "_law_most"] spDraw := by
  refine F.ok scDraw (fun vs H Q E h => ?_) (fun cdv A outer s H vs Q E hr h => ?_)
  · obtain ⟨d, m, rfl, _⟩ := h
    rfl
  · obtain ⟨d, m, rfl, h0, h1, ⟨a, b, c, hd⟩, k⟩ := h
    refine ⟨_, pss_cons (ps_if (pt_cmpR op_gt (pe_ix ix_list (pv 0) pe_int (fun _ _ => rfl)) pe_int (nomark _))
        (pss_cons (ps_set (i := 2) scDraw.nd rfl (Or.inl rfl) (pe_op op_modN (pe_ix ix_list (pv 0) pe_int (fun _ _ => rfl)) (pv 1)))
        (pss_cons (ps_asg (pe_op op_fdivN (pe_ix ix_list (pv 0) pe_int (fun _ _ => rfl)) (pv 1)) (pg_sub (pv 0) pe_int set_list))
        (pss_one (ps_ret (pv 2))))) pss_nil)
      (pss_cons (ps_asg (pe_op op_add (pe_ix ix_list (pv 0) pe_int (fun _ _ => rfl)) pe_int) (pg_sub (pv 0) pe_int set_list))
      (pss_cons (ps_set (i := 3) scDraw.nd rfl (Or.inl rfl) (pe_op op_mod (pe_op op_mul (pe_op op_add (pe_op op_add (pe_ix ix_list (pv 0) pe_int (fun _ _ => rfl)) (pe_op op_mul pe_int (pe_ix ix_list (pv 0) pe_int (fun _ _ => rfl)))) pe_int) pe_int) pe_int))
      (pss_cons (ps_set (i := 3) scDraw.nd rfl (Or.inl rfl) (pe_op op_mod (pe_op op_add (pe_op op_add (pe_op op_mul (pv 3) (pv 3)) (pe_op op_mul pe_int (pv 3))) (pe_ix ix_list (pv 0) pe_int (fun _ _ => rfl))) pe_int))
      (pss_one (ps_ret (pe_op op_modN (pe_op op_fdiv (pe_op op_mod (pe_op op_mul (pv 3) pe_int) pe_int) pe_int) (pv 1))))))), ?_⟩
    refine ⟨_, rfl, d, _, _, _, rfl, rfl, SqL.of hd, ix3.1, _, _, rfl, rfl, _, rfl, ?_⟩
    refine ite2 (fun _ => ?_) (fun _ => ?_)
    · refine ⟨_, rfl, d, _, _, _, rfl, rfl, SqL.of hd, ix3.1, _, rfl, _, _, rfl, rfl, (by show m ≠ 0; omega), ?_⟩
      refine ⟨_, rfl, d, _, _, _, rfl, rfl, SqL.of hd, ix3.1, _, rfl, _, _, rfl, rfl, ⟨by omega, by omega⟩, ?_⟩
      refine ⟨_, rfl, d, _, _, 0, rfl, rfl, hd, rfl, ?_⟩
      refine ⟨_, rfl, ?_⟩
      exact k _ (Int.fmod_nonneg_of_pos a h0) (Int.fmod_lt_of_pos a h0) _ ⟨_, _, _, upd_same⟩ fun b hb => upd_ne hb
    · refine ⟨_, rfl, d, _, _, _, rfl, rfl, SqL.of hd, ix3.2.2, _, _, rfl, rfl, ?_⟩
      refine ⟨_, rfl, d, _, _, 2, rfl, rfl, hd, rfl, ?_⟩
      have hd2 : (upd H d (.lst ([V.int a, V.int b, V.int c].set 2 (.int (c + 1))))) d = some (.lst [.int a, .int b, .int (c + 1)]) := upd_same
      refine ⟨_, rfl, d, _, _, _, rfl, rfl, SqL.of hd2, ix3.2.1, _, rfl, d, _, _, _, rfl, rfl, SqL.of hd2, ix3.2.2, _, _, rfl, rfl, .inl (by decide), _, _, rfl, rfl, _, _, rfl, rfl, _, _, rfl, rfl, .inr (by decide), _, _, rfl, rfl, (by show (0:Int) < 2147483647; decide), ?_⟩
      refine ⟨_, rfl, _, rfl, _, _, rfl, rfl, .inl ⟨by omega, by omega⟩, _, rfl, _, _, rfl, rfl, .inl (by decide), _, _, rfl, rfl, _, rfl, d, _, _, _, rfl, rfl, SqL.of hd2, ix3.2.2, _, _, rfl, rfl, _, _, rfl, rfl, (by show (0:Int) < 2147483629; decide), ?_⟩
      refine ⟨_, rfl, _, _, rfl, rfl, .inr (by decide), _, _, rfl, rfl, (by show (0:Int) < 2147483563; decide), _, _, rfl, rfl, ⟨by decide, by decide⟩, _, rfl, _, _, rfl, rfl, (by show m ≠ 0; omega), ?_⟩
      exact k _ (Int.fmod_nonneg_of_pos _ h0) (Int.fmod_lt_of_pos _ h0) _ ⟨_, _, _, hd2⟩ fun b hb => upd_ne hb
end
end K
namespace K
open PySem L2 Rp
/-! ### the law's own gcd -/
theorem gcd_turn {c d : Int} (hc : 0 ≤ c) (hd : 0 ≤ d) : Int.gcd d (c % d) = Int.gcd c d := by
  obtain ⟨m, rfl⟩ := Int.eq_ofNat_of_zero_le hc
  obtain ⟨n, rfl⟩ := Int.eq_ofNat_of_zero_le hd
  show Nat.gcd n (m % n) = Nat.gcd m n
  rw [Nat.gcd_comm n, ← Nat.gcd_rec, Nat.gcd_comm]
def spDiv : Sp := fun vs H Q _ => ∃ a b : Int, vs = [.int a, .int b] ∧ 0 ≤ a ∧ 0 ≤ b ∧ Q (.int (Int.gcd a b : Nat)) H
section
variable {P : Program} {w : World} {K : PySem.W.Frag} {mg : Str → Option Value} {base : Heap}
theorem scDiv : FnScope ["_law_one", "_law_other"] ["_law_one", "_law_other"] (defScope sDiv) := ⟨rfl, rfl, rfl, by decide +kernel, rfl, by decide +kernel, by decide +kernel⟩
theorem ok_div {f : Addr} {fd : FuncData} (F : Fun K "_law_divides" "_law_divides" sDiv f fd) (hab : mg "abs" = none) : FnOk P w K mg base CX0 1 f fd ["_law_one", "_law_other"] spDiv := by
  refine F.ok scDiv (fun vs H Q E h => ?_) (fun cdv A outer s H vs Q E hr h => ?_)
  · obtain ⟨a, b, rfl, _⟩ := h
    rfl
  · obtain ⟨a, b, rfl, ha, hb, k⟩ := h
    refine ⟨_, pss_cons (ps_par (i := 0) (j := 1) rfl scDiv.nd rfl rfl (by decide) rfl rfl (pa_cons (pe_callB call_abs (by rfl) hab (by decide +kernel) (pa_cons (pv 0) pa_nil)) (pa_cons (pe_callB call_abs (by rfl) hab (by decide +kernel) (pa_cons (pv 1) pa_nil)) pa_nil)) (by rfl))
      (pss_cons (ps_while PassesOwn.never (pt_cmpR op_gt (pv 1) pe_int (nomark _)) (pss_one (ps_par (i := 0) (j := 1) rfl scDiv.nd rfl rfl (by decide) rfl rfl (pa_cons (pv 1) (pa_cons (pe_op op_modN (pv 0) (pv 1)) pa_nil)) (by rfl))))
      (pss_one (ps_ret (pv 0)))), ?_⟩
    refine ⟨_, rfl, _, rfl, _, rfl, _, rfl, _, _, rfl, ?_⟩
    rw [if_neg (show ¬ a < 0 by omega), if_neg (show ¬ b < 0 by omega)]
    refine while_by (fun σ H' => H' = H ∧ ∃ c d : Int, σ = [some (.int c), some (.int d)] ∧ 0 ≤ c ∧ 0 ≤ d ∧ Int.gcd c d = Int.gcd a b) (fun σ _ => match σ with | [_, some (.int d)] => d.toNat | _ => 0)
      ⟨rfl, a, b, rfl, ha, hb, rfl⟩ ?_ ?_
    · rintro σ H' ⟨rfl, c, d, rfl, hc, hd, hg⟩
      refine ⟨_, rfl, _, _, rfl, rfl, _, rfl, ?_⟩
      refine ite2 (fun h => ?_) (fun h => ?_)
      · have h' : 0 < d := by simpa using h
        refine ⟨_, rfl, _, rfl, _, rfl, _, _, rfl, rfl, (by show d ≠ 0; omega), _, _, rfl, ?_⟩
        have e : c.fmod d = c % d := Int.fmod_eq_emod_of_nonneg c (by omega)
        have e0 := Int.emod_nonneg c (by omega : d ≠ 0)
        have e1 := Int.emod_lt_of_pos c h'
        refine ⟨⟨rfl, d, c.fmod d, rfl, by omega, by omega, ?_⟩, ?_⟩
        · rw [← hg, e]
          exact gcd_turn hc hd
        · show (c.fmod d).toNat < d.toNat
          omega
      · have h' : d = 0 := by
          have : ¬ 0 < d := by simpa using h
          omega
        subst h'
        refine ⟨_, rfl, ?_⟩
        have e : c = ((Int.gcd a b : Nat) : Int) := by rw [← hg, Int.gcd_zero_right]; omega
        rw [e]
        exact k
    · rintro σ H' Q1 Q2 hQ ⟨v, e, i, j, h1, h2, c, h3, q⟩
      exact ⟨v, e, i, j, h1, h2, c, h3, hQ _ _ q⟩
end
end K
namespace K
open PySem L2 Rp
/-! ### sizes -/
/-- below 2 ^ m in size -/
def Sz (m : Nat) (x : Int) : Prop := x.natAbs < 2 ^ m
theorem Sz.mono {a b : Nat} {x : Int} (h : Sz a x) (hab : a ≤ b) : Sz b x := Nat.lt_of_lt_of_le h (Nat.pow_le_pow_right (by decide) hab)
theorem Sz.mul {a b : Nat} {x y : Int} (hx : Sz a x) (hy : Sz b y) : Sz (a + b) (x * y) := wide_lt hx hy
theorem Sz.add {a : Nat} {x y : Int} (hx : Sz a x) (hy : Sz a y) : Sz (a + 1) (x + y) := by
  have h := Int.natAbs_add_le x y
  unfold Sz at *
  rw [Nat.pow_succ]
  omega
theorem Sz.sub {a : Nat} {x y : Int} (hx : Sz a x) (hy : Sz a y) : Sz (a + 1) (x - y) := by
  have h := Int.natAbs_sub_le x y
  unfold Sz at *
  rw [Nat.pow_succ]
  omega
theorem Sz.div {a : Nat} {x : Int} (hx : Sz a x) (y : Int) : Sz a (x / y) := Nat.lt_of_le_of_lt (Int.natAbs_ediv_le_natAbs x y) hx
theorem Sz.log {a : Nat} {x : Int} (hx : Sz a x) (h0 : 0 < a) : x.natAbs.log2 < a := PySem.Flt.log2_lt_of h0 hx
theorem Sz.mulOk {a b : Nat} {x y : Int} (hx : Sz a x) (hy : Sz b y) (h0 : 0 < a) (h1 : 0 < b) (h : a + b ≤ 1000000) : CMulW x y := wide_mul hx hy h0 h1 h
theorem gcd_pos {t b : Int} (hb : 0 < b) : 0 < ((Int.gcd t b : Nat) : Int) := by
  have : Int.gcd t b ≠ 0 := fun z => by
    have := Int.gcd_eq_zero_iff.mp z
    omega
  omega
theorem gcd_le {t b : Int} (hb : 0 < b) : ((Int.gcd t b : Nat) : Int) ≤ b := by
  have h := Int.gcd_dvd_right t b
  exact Int.le_of_dvd hb h
theorem Sz.gcd {a : Nat} {t b : Int} (h : Sz a b) (hb : 0 < b) : Sz a ((Int.gcd t b : Nat) : Int) := by
  have h1 := gcd_le (t := t) hb
  have h2 := gcd_pos (t := t) hb
  unfold Sz at *
  omega

/-! ### Weights -/
theorem tb_ : ¬ (("top" : Str) = "bottom") := by decide +kernel
theorem bt_ : ¬ (("bottom" : Str) = "top") := by decide +kernel
/-- a Weight's fields, as __init__ stores them -/
def wf (t b : Int) : List (Str × V) := putF "bottom" (.int b) (putF "top" (.int t) [])
theorem wf_top (t b : Int) : (wf t b).lookup ("top" : Str) = some (.int t) := by
  unfold wf
  rw [lookup_putF, if_neg tb_, lookup_putF, if_pos rfl]
theorem wf_bottom (t b : Int) : (wf t b).lookup ("bottom" : Str) = some (.int b) := by
  unfold wf
  rw [lookup_putF, if_pos rfl]
theorem wf_no (t b : Int) {m : Str} (h1 : ¬ m = "top") (h2 : ¬ m = "bottom") : (wf t b).lookup m = none := by
  unfold wf
  rw [lookup_putF, if_neg h2, lookup_putF, if_neg h1]
  all_goals rfl
/-- a Weight t / b stands at p -/
def WAt (C : Addr) (H : Hp) (p : Addr) (t b : Int) : Prop := ∃ dx, H p = some (.ins C dx (wf t b))
theorem WAt.same {C : Addr} {H H' : Hp} {p : Addr} {t b : Int} (h : WAt C H p t b) (e : Same H H') : WAt C H' p t b := let ⟨dx, h⟩ := h; ⟨dx, e _ _ h⟩
theorem same_make {H : Hp} {x dx C : Addr} {fs : List (Str × V)} (nx : H x = none) (ndx : H dx = none) : Same H (upd (upd (upd H dx (.own x)) x (.ins C dx [])) x (.ins C dx fs)) := fun b o e => by
  rw [upd_ne (ne_of_none e nx), upd_ne (ne_of_none e nx), upd_ne (ne_of_none e ndx)]
  exact e

/-- what the top holds of the class Weight, at C -/
structure WTxt (K : PySem.W.Frag) (mg : Str → Option Value) (C fW : Addr) : Prop where
  cl : Cls K C
  nT : NoAttr K C "top"
  nB : NoAttr K C "bottom"
  mgC : mg "Weight" = some (.ref C)
  mgW : mg "is_whole" = some (.ref fW)
  kpW : PySem.W.keepIn K (.ref fW) = true
  gcd : mg "gcd" = some (.builtin "math.gcd")

def spInit (C : Addr) : Sp := fun vs H Q _ => ∃ (p dx : Addr) (t b : Int), vs = [.ref p, .int t, .int b] ∧ H p = some (.ins C dx []) ∧ 0 ≤ t ∧ 0 < b ∧ Sz 8000 b ∧
  Q .non (upd H p (.ins C dx (wf (t / (Int.gcd t b : Nat)) (b / (Int.gcd t b : Nat)))))

/-- as FunD.ok, of a def that lets nothing out -/
theorem FunD_ok0 {P : Program} {w : World} {K : PySem.W.Frag} {mg : Str → Option Value} {base : Heap} {x qual : Str} {params : Arguments} {body : List Stmt} {scope : Scope} {dvs : List V} {kws : List (Str × V)} {f : Addr} {fd : FuncData} {N ps : List Str} {k : Nat} {sp : Sp}
    (F : FunD K x qual params body scope dvs kws f fd) (S : FnScope N ps scope) (len : ∀ vs H Q E, sp vs H Q E → vs.length = ps.length)
    (hbody : ∀ (cdv : Value) (A : Around) (outer : List PySem.Env) (s : Shared) (H : Hp) (vs : List V) (Q : VK) (E : XK), Room k (A.deeper (PyProof.Rows.envOfC qual scope s.heap.objs.size f cdv)) → sp vs H Q E →
      ∃ t, PSs (cxOf CX0 P w K mg base N qual scope f cdv A outer s H E).nox body t ∧ t { nx := fun _ H' => Q .non H', rt := Q } (start N vs) H) : FnOk P w K mg base CX0 (k + 1) f fd ps sp :=
  F.ok S len fun cdv A outer s H vs Q E hr h => let ⟨t, h1, h2⟩ := hbody cdv A outer s H vs Q E hr h; ⟨t, h1.nox, h2⟩

section
variable {P : Program} {w : World} {K : PySem.W.Frag} {mg : Str → Option Value} {base : Heap}
theorem scInit : FnScope ["self", "top", "bottom", "shared"] ["self", "top", "bottom"] (defScope sInit) := ⟨rfl, rfl, rfl, by decide +kernel, rfl, by decide +kernel, by decide +kernel⟩
abbrev FunI (K : PySem.W.Frag) (f : Addr) (fd : FuncData) : Prop := FunD K "__init__" "Weight.__init__" (defArgs sInit) (defBody sInit) (defScope sInit) [.int 1] [] f fd
theorem ok_init {f C fW : Addr} {fd fdW : FuncData} (F : FunI K f fd) (T : WTxt K mg C fW) (GW : FnOk P w K mg base CX0 1 fW fdW ["thing"] (spWhole K)) (bW : Binds K fdW ["thing"] []) : FnOk P w K mg base CX0 2 f fd ["self", "top", "bottom"] (spInit C) := by
  refine FunD_ok0 F scInit (fun vs H Q E h => ?_) (fun cdv A outer s H vs Q E hr h => ?_)
  · obtain ⟨p, dx, t, b, rfl, _⟩ := h
    rfl
  · obtain ⟨p, dx, t, b, rfl, hp, ht, hb, hz, k⟩ := h
    refine ⟨_, pss_cons (ps_if (PW.pt (pw_and (pt_val (pe_call GW hr (by rfl) T.mgW T.kpW bW .nil pass0 (pa_cons (pv 2) pa_nil))) (pw_and1 (pt_cmpR op_eq (pv 2) pe_int (nomark _))))) (pss_one ps_never) pss_nil)
      (pss_cons (ps_if (PW.pt (pw_or (pt_not (pt_val (pe_call GW hr (by rfl) T.mgW T.kpW bW .nil pass0 (pa_cons (pv 1) pa_nil)))) (pw_or (pt_not (pt_val (pe_call GW hr (by rfl) T.mgW T.kpW bW .nil pass0 (pa_cons (pv 2) pa_nil))))
          (pw_or (pt_cmpR op_lt (pv 1) pe_int (nomark _)) (pw_or1 (pt_cmpR op_lt (pv 2) pe_int (nomark _))))))) (pss_one ps_never) pss_nil)
      (pss_cons (ps_set (i := 3) scInit.nd rfl (Or.inl rfl) (pe_callBfun cr_gcd (by rfl) T.gcd (pa_cons (pv 1) (pa_cons (pv 2) pa_nil))))
      (pss_cons (ps_fld (pv 0) (pe_op op_fdivW (pv 1) (pv 3)) rfl)
      (pss_one (ps_fld (pv 0) (pe_op op_fdivW (pv 2) (pv 3)) rfl))))), ?_⟩
    have hg := gcd_pos (t := t) hb
    have hgz : CDivW t ((Int.gcd t b : Nat) : Int) := ⟨hg, Nat.lt_trans ((Sz.gcd (t := t) hz hb).log (by decide)) (by decide)⟩
    have hgz' : CDivW b ((Int.gcd t b : Nat) : Int) := hgz
    refine ⟨_, rfl, b, rfl, true, rfl, iteT ⟨_, rfl, rfl, _, rfl, ?_⟩⟩
    rw [decide_eq_false (show ¬ (V.int b = V.int 0) from fun z => by cases z; omega)]
    refine iteF ?_
    refine ⟨_, rfl, t, rfl, true, rfl, iteF ⟨_, rfl, b, rfl, true, rfl, iteF ⟨_, rfl, _, _, rfl, rfl, _, rfl, ?_⟩⟩⟩
    rw [decide_eq_false (show ¬ t < 0 by omega)]
    refine iteF ⟨_, rfl, _, _, rfl, rfl, _, rfl, ?_⟩
    rw [decide_eq_false (show ¬ b < 0 by omega)]
    refine iteF ?_
    refine ⟨_, rfl, _, rfl, t, b, rfl, ?_⟩
    refine ⟨_, rfl, _, rfl, _, _, rfl, rfl, hgz, _, rfl, p, C, dx, _, rfl, hp, T.cl, T.nT, (by show 0 < 1000; decide), ?_⟩
    refine ⟨_, rfl, _, rfl, _, _, rfl, rfl, hgz', _, rfl, p, C, dx, _, rfl, upd_same, T.cl, T.nB, (by show 1 < 1000; decide), ?_⟩
    show Q .non (upd (upd H p _) p _)
    rw [upd_upd]
    exact k
end
end K
namespace K
open PySem L2 Rp
/-- a Weight's numbers, below 2 ^ m -/
structure Wn (m : Nat) (t b : Int) : Prop where
  t0 : 0 ≤ t
  b0 : 0 < b
  tz : Sz m t
  bz : Sz m b
theorem Wn.mono {m n : Nat} {t b : Int} (h : Wn m t b) (hm : m ≤ n) : Wn n t b := ⟨h.t0, h.b0, h.tz.mono hm, h.bz.mono hm⟩
/-- lowest terms -/
def lowT (t b : Int) : Int := t / ((Int.gcd t b : Nat) : Int)
def lowB (t b : Int) : Int := b / ((Int.gcd t b : Nat) : Int)
theorem Wn.low {m : Nat} {t b : Int} (h : Wn m t b) : Wn m (lowT t b) (lowB t b) := by
  have hg := gcd_pos (t := t) h.b0
  have hd := Int.gcd_dvd_right t b
  refine ⟨Int.ediv_nonneg h.t0 (Int.le_of_lt hg), ?_, h.tz.div _, h.bz.div _⟩
  exact Int.ediv_pos_of_pos_of_dvd h.b0 (Int.le_of_lt hg) hd

end K
namespace K
open PySem L2 Rp
/-- a def of the module, as its callers want it -/
structure Cl (K : PySem.W.Frag) (mg : Str → Option Value) (x : Str) (f : Addr) (fd : FuncData) (ps : List Str) : Prop where
  g : mg x = some (.ref f)
  k : PySem.W.keepIn K (.ref f) = true
  b : Binds K fd ps []
/-- what isinstance asks of an own class's instance -/
structure WIns (K : PySem.W.Frag) (C : Addr) : Prop where
  ha : PySem.W.findIn K (.ref C) "__class__" = some (some (.builtin "object.__class__"))
  hn : PySem.W.specialIn K (.builtin "object.__class__") "__get__" = some (some (.builtin "getset_descriptor.__get__"))
  htk : PySem.W.takesIn K (.builtin "object.__class__") = some true
  hm : PySem.W.mroIn K C (.type "object") = some true
theorem kit_self {K : PySem.W.Frag} {C : Addr} : PySem.W.kitOne K (.ref C) (.ref C) = some true := by
  unfold PySem.W.kitOne
  rw [if_pos (by simp)]

def spLow : Sp := fun vs H Q _ => ∃ t b : Int, vs = [.int t, .int b] ∧ 0 ≤ t ∧ 0 < b ∧ Sz 8000 b ∧ ∀ p, H p = none → Q (.ref p) (upd H p (.tup [.int (lowT t b), .int (lowB t b)]))
/-- _law_is of a Weight that is what it should be -/
def spIs (C : Addr) : Sp := fun vs H Q _ => ∃ (p : Addr) (t b : Int), vs = [.ref p, .int t, .int b] ∧ 0 ≤ t ∧ 0 < b ∧ Sz 8000 b ∧ WAt C H p (lowT t b) (lowB t b) ∧ ∀ H', Same H H' → Q (.bl true) H'

section
variable {P : Program} {w : World} {K : PySem.W.Frag} {mg : Str → Option Value} {base : Heap}
theorem scLow : FnScope ["_law_top", "_law_bottom", "_law_by"] ["_law_top", "_law_bottom"] (defScope sLow) := ⟨rfl, rfl, rfl, by decide +kernel, rfl, by decide +kernel, by decide +kernel⟩
theorem ok_low {f fD : Addr} {fd fdD : FuncData} (F : Fun K "_law_lowest" "_law_lowest" sLow f fd) (cD : Cl K mg "_law_divides" fD fdD ["_law_one", "_law_other"]) (GD : FnOk P w K mg base CX0 1 fD fdD ["_law_one", "_law_other"] spDiv) :
    FnOk P w K mg base CX0 2 f fd ["_law_top", "_law_bottom"] spLow := by
  refine F.ok scLow (fun vs H Q E h => ?_) (fun cdv A outer s H vs Q E hr h => ?_)
  · obtain ⟨t, b, rfl, _⟩ := h
    rfl
  · obtain ⟨t, b, rfl, ht, hb, hz, k⟩ := h
    refine ⟨_, pss_cons (ps_set (i := 2) scLow.nd rfl (Or.inl rfl) (pe_call GD hr (by rfl) cD.g cD.k cD.b .nil pass0 (pa_cons (pv 0) (pa_cons (pv 1) pa_nil))))
      (pss_one (ps_ret (pe_tup (pa_cons (pe_op op_fdivW (pv 0) (pv 2)) (pa_cons (pe_op op_fdivW (pv 1) (pv 2)) pa_nil))))), ?_⟩
    have hg := gcd_pos (t := t) hb
    have hgz : ∀ i, CDivW i ((Int.gcd t b : Nat) : Int) := fun i => ⟨hg, Nat.lt_trans ((Sz.gcd (t := t) hz hb).log (by decide)) (by decide)⟩
    refine ⟨_, rfl, _, rfl, t, b, rfl, ht, Int.le_of_lt hb, ?_⟩
    refine ⟨_, rfl, _, rfl, _, _, rfl, rfl, hgz _, _, rfl, _, rfl, _, _, rfl, rfl, hgz _, (by show 2 ≤ sizeLine; decide), fun p hp => ?_⟩
    exact k p hp
theorem scIs : FnScope ["_law_found", "_law_top", "_law_bottom"] ["_law_found", "_law_top", "_law_bottom"] (defScope sIs) := ⟨rfl, rfl, rfl, by decide +kernel, rfl, by decide +kernel, by decide +kernel⟩
theorem ok_is {f C fW fL fN : Addr} {fd fdL fdN : FuncData} (F : Fun K "_law_is" "_law_is" sIs f fd) (T : WTxt K mg C fW) (B : Blt mg) (N : WIns K C)
    (cW : Cl K mg "_law_whole" fN fdN ["_law_thing"]) (GW : FnOk P w K mg base CX0 1 fN fdN ["_law_thing"] (spWhole K)) (cL : Cl K mg "_law_lowest" fL fdL ["_law_top", "_law_bottom"]) (GL : FnOk P w K mg base CX0 2 fL fdL ["_law_top", "_law_bottom"] spLow) :
    FnOk P w K mg base CX0 3 f fd ["_law_found", "_law_top", "_law_bottom"] (spIs C) := by
  refine F.ok scIs (fun vs H Q E h => ?_) (fun cdv A outer s H vs Q E hr h => ?_)
  · obtain ⟨p, t, b, rfl, _⟩ := h
    rfl
  · obtain ⟨p, t, b, rfl, ht, hb, hz, ⟨dx, hp⟩, k⟩ := h
    have hr1 : Room 1 _ := hr.mono (by decide)
    refine ⟨_, pss_cons (ps_if (PW.pt (pw_or (pt_not (pt_val (pe_callB call_isi (by rfl) B.isi (by decide +kernel) (pa_cons (pv 0) (pa_cons (pe_glob (v := .ref C) rfl T.mgC rfl) pa_nil)))))
          (pw_or (pt_not (pt_val (pe_call GW hr1 (by rfl) cW.g cW.k cW.b .nil pass0 (pa_cons (pe_fld (pv 0) rfl) pa_nil))))
          (pw_or1 (pt_not (pt_val (pe_call GW hr1 (by rfl) cW.g cW.k cW.b .nil pass0 (pa_cons (pe_fld (pv 0) rfl) pa_nil)))))))) (pss_one (ps_ret pe_bl)) pss_nil)
      (pss_one (ps_ret (pe_cmpR (op_eqD hr.units) (pe_tup (pa_cons (pe_fld (pv 0) rfl) (pa_cons (pe_fld (pv 0) rfl) pa_nil))) (pe_call GL hr (by rfl) cL.g cL.k cL.b .nil pass0 (pa_cons (pv 1) (pa_cons (pv 2) pa_nil))) (nomark _)))), ?_⟩
    refine ⟨_, rfl, _, .ref C, _, _, true, rfl, .own _, .base (.ins hp T.cl N.ha N.hn N.htk N.hm), kit_self, true, rfl, iteF ?_⟩
    refine ⟨_, rfl, p, C, dx, _, _, rfl, hp, T.cl, T.nT, wf_top _ _, _, rfl, true, rfl, iteF ?_⟩
    refine ⟨_, rfl, p, C, dx, _, _, rfl, hp, T.cl, T.nB, wf_bottom _ _, _, rfl, true, rfl, iteF ?_⟩
    refine ⟨_, rfl, p, C, dx, _, _, rfl, hp, T.cl, T.nT, wf_top _ _, _, rfl, p, C, dx, _, _, rfl, hp, T.cl, T.nB, wf_bottom _ _, (by show 2 ≤ sizeLine; decide), fun a ha => ?_⟩
    refine ⟨_, rfl, _, rfl, t, b, rfl, ht, hb, hz, fun c hc => ?_⟩
    have nac : a ≠ c := fun z => by
      rw [z] at hc
      rw [upd_same] at hc
      cases hc
    have e1 : Same H (upd (upd H a (.tup [V.int (lowT t b), V.int (lowB t b)])) c (.tup [V.int (lowT t b), V.int (lowB t b)])) := fun q o e => by
      rw [upd_ne (ne_of_none (by rw [upd_ne (ne_of_none e ha)]; exact e) hc), upd_ne (ne_of_none e ha)]
      exact e
    refine ⟨.tuple [.int (lowT t b), .int (lowB t b)], .tuple [.int (lowT t b), .int (lowB t b)], .tup (SqT.of (by rw [upd_ne nac]; exact upd_same)) (.cons (.int _) (.cons (.int _) .nil)), .tup (SqT.of upd_same) (.cons (.int _) (.cons (.int _) .nil)), rfl, rfl, ?_⟩
    rw [SeqAt.eqv_refl]
    · exact k _ e1
    · rfl
end
end K
namespace K
open PySem L2 Rp
/-- all but d is kept, what is free was free -/
structure Fw (d : Addr) (H H' : Hp) : Prop where
  kp : ∀ q o, q ≠ d → H q = some o → H' q = some o
  nn : ∀ p, H' p = none → H p = none
theorem Fw.refl (d : Addr) (H : Hp) : Fw d H H := ⟨fun _ _ _ h => h, fun _ h => h⟩
theorem Fw.trans {d : Addr} {H H1 H2 : Hp} (a : Fw d H H1) (b : Fw d H1 H2) : Fw d H H2 := ⟨fun q o n h => b.kp q o n (a.kp q o n h), fun p h => a.nn p (b.nn p h)⟩
theorem Fw.draw {d : Addr} {H H' : Hp} (h : DeckAt H' d) (e : ∀ b, b ≠ d → H' b = H b) : Fw d H H' := ⟨fun q o n h => (e q n).trans h, fun p hp => by
  by_cases z : p = d
  · obtain ⟨_, _, _, h⟩ := h
    rw [z, h] at hp
    cases hp
  · rw [← e p z]; exact hp⟩
theorem Fw.upd {d p : Addr} {H : Hp} {o : HO} (hp : H p = none) : Fw d H (upd H p o) := ⟨fun q u n h => by rw [upd_ne (ne_of_none h hp)]; exact h, fun q h => by
  by_cases z : q = p
  · rw [z, upd_same] at h; cases h
  · rw [upd_ne z] at h; exact h⟩
theorem Fw.same {d : Addr} {H H' : Hp} (e : Same H H') : (∀ p, H' p = none → H p = none) := fun p h => by
  cases q : H p with
  | none => rfl
  | some o => rw [e p o q] at h; cases h
theorem Fw.of_same {d : Addr} {H H' : Hp} (e : Same H H') : Fw d H H' := ⟨fun q o _ h => e q o h, Fw.same (d := d) e⟩
theorem DeckAt.upd {d p : Addr} {H : Hp} {o : HO} (h : DeckAt H d) (hp : H p = none) : DeckAt (upd H p o) d := by
  obtain ⟨a, b, c, h⟩ := h
  exact ⟨a, b, c, by rw [upd_ne (ne_of_none h hp)]; exact h⟩
theorem DeckAt.same {d : Addr} {H H' : Hp} (h : DeckAt H d) (e : Same H H') : DeckAt H' d := let ⟨a, b, c, h⟩ := h; ⟨a, b, c, e _ _ h⟩
theorem DeckAt.ne {d p : Addr} {H : Hp} (h : DeckAt H d) (hp : H p = none) : p ≠ d := fun z => by
  obtain ⟨_, _, _, h⟩ := h
  rw [z, h] at hp
  cases hp

theorem tYes_of {σ : L2.St} {H : Hp} {Q : Bool → Hp → Prop} (h : Q true H) : tYes σ H Q := h

def spTwo : Sp := fun vs H Q _ => ∃ d : Addr, vs = [.ref d] ∧ DeckAt H d ∧ ∀ (p : Addr) (t b : Int) (H' : Hp), 0 ≤ t → t ≤ 1000000000000 → 0 < b → b ≤ 1000000000000 → H p = none → H' p = some (.tup [.int t, .int b]) → DeckAt H' d → Fw d H H' → Q (.ref p) H'

section
variable {P : Program} {w : World} {K : PySem.W.Frag} {mg : Str → Option Value} {base : Heap}
theorem scTwo : FnScope ["_law_deck_here", "_law_way", "_law_top", "_law_bottom", "_law_k"] ["_law_deck_here"] (defScope sTwo) := ⟨rfl, rfl, rfl, by decide +kernel, rfl, by decide +kernel, by decide +kernel⟩
theorem ok_two {f fD : Addr} {fd fdD : FuncData} (F : Fun K "_law_two" "_law_two" sTwo f fd) (hmx : mg "max" = none) (hrg : mg "range" = none) (cD : Cl K mg "_law_draw" fD fdD ["_law_deck_here", "_law_most"])
    (GD : FnOk P w K mg base CX0 1 fD fdD ["_law_deck_here", "_law_most"] spDraw) : FnOk P w K mg base CX0 2 f fd ["_law_deck_here"] spTwo := by
  refine F.ok scTwo (fun vs H Q E h => ?_) (fun cdv A outer s H vs Q E hr h => ?_)
  · obtain ⟨d, rfl, _⟩ := h
    rfl
  · obtain ⟨d, rfl, hd, k⟩ := h
    refine ⟨_, pss_cons (ps_set (i := 1) scTwo.nd rfl (Or.inl rfl) (pe_call GD hr (by rfl) cD.g cD.k cD.b .nil pass0 (pa_cons (pv 0) (pa_cons pe_int pa_nil))))
      (pss_cons (ps_if (pt_cmpR op_eq (pv 1) pe_int (nomark _))
        (pss_cons (ps_asg (pe_lc (own := [("_law_k", 4)]) (g := gName 4) (tt := tYes) (by rfl) scTwo.nd (pi_range1 (by rfl) hrg (pa_cons pe_int pa_nil)) (blkOk_by (own := [("_law_k", 4)]) (N := ["_law_deck_here", "_law_way", "_law_top", "_law_bottom", "_law_k"]) (sc := defScope sTwo) (by decide +kernel))
            (fun _ _ _ _ _ => pg_name (i := 4) scTwo.nd rfl (Or.inl rfl)) (fun _ _ _ _ _ => pts_nil)
            (fun _ _ _ _ _ => pe_op op_add (pe_op op_mul (pe_call GD hr (by rfl) cD.g cD.k cD.b .nil pass0 (pa_cons (pv 0) (pa_cons (pe_op op_pow pe_int pe_int) pa_nil))) (pe_op op_pow pe_int pe_int)) (pe_call GD hr (by rfl) cD.g cD.k cD.b .nil pass0 (pa_cons (pv 0) (pa_cons (pe_op op_pow pe_int pe_int) pa_nil)))))
          (pg_unl rfl (pgs_cons (pg_name (i := 2) scTwo.nd rfl (Or.inl rfl)) (pgs_cons (pg_name (i := 3) scTwo.nd rfl (Or.inl rfl)) pgs_nil))))
        (pss_one (ps_ret (pe_tup (pa_cons (pv 2) (pa_cons (pe_callB (call_max2 rfl) (by rfl) hmx (by decide +kernel) (pa_cons pe_int (pa_cons (pv 3) pa_nil))) pa_nil)))))) pss_nil)
      (pss_cons (ps_if (pt_cmpR op_lt (pv 1) pe_int (nomark _)) (pss_one (ps_ret (pe_tup (pa_cons (pe_call GD hr (by rfl) cD.g cD.k cD.b .nil pass0 (pa_cons (pv 0) (pa_cons pe_int pa_nil))) (pa_cons pe_int pa_nil))))) pss_nil)
      (pss_cons (ps_if (pt_cmpR op_lt (pv 1) pe_int (nomark _)) (pss_one (ps_ret (pe_tup (pa_cons (pe_call GD hr (by rfl) cD.g cD.k cD.b .nil pass0 (pa_cons (pv 0) (pa_cons pe_int pa_nil))) (pa_cons (pe_op op_add pe_int (pe_call GD hr (by rfl) cD.g cD.k cD.b .nil pass0 (pa_cons (pv 0) (pa_cons pe_int pa_nil)))) pa_nil))))) pss_nil)
      (pss_cons (ps_if (pt_cmpR op_eq (pv 1) pe_int (nomark _)) (pss_one (ps_ret (pe_ix ix_list (pe_lst (pa_cons (pe_tup (pa_cons pe_int (pa_cons pe_int pa_nil))) (pa_cons (pe_tup (pa_cons pe_int (pa_cons pe_int pa_nil))) (pa_cons (pe_tup (pa_cons pe_int (pa_cons pe_int pa_nil))) (pa_cons (pe_tup (pa_cons pe_int (pa_cons pe_int pa_nil))) pa_nil)))))
          (pe_call GD hr (by rfl) cD.g cD.k cD.b .nil pass0 (pa_cons (pv 0) (pa_cons pe_int pa_nil))) (fun _ _ => rfl)))) pss_nil)
      (pss_one (ps_ret (pe_tup (pa_cons (pe_call GD hr (by rfl) cD.g cD.k cD.b .nil pass0 (pa_cons (pv 0) (pa_cons (pe_op op_add (pe_op op_pow pe_int pe_int) pe_int) pa_nil))) (pa_cons (pe_op op_add pe_int (pe_call GD hr (by rfl) cD.g cD.k cD.b .nil pass0 (pa_cons (pv 0) (pa_cons (pe_op op_pow pe_int pe_int) pa_nil)))) pa_nil))))))))), ?_⟩
    have p6 : CPow (10 : Int) (6 : Int) := (by show (0:Int) ≤ 6 ∧ (6:Int) ≤ 1000000 ∧ (10:Int).natAbs < 2 ^ 64; decide)
    have m6 : (10 : Int) ^ (6 : Int).toNat = 1000000 := by decide
    have m7 : (10 : Int) ^ (6 : Int).toNat + 1 = 1000001 := by decide
    have pair : ∀ (H3 : Hp) (t b : Int), 0 ≤ t → t ≤ 1000000000000 → 0 < b → b ≤ 1000000000000 → DeckAt H3 d → Fw d H H3 → ∀ p, H3 p = none → Q (.ref p) (upd H3 p (.tup [.int t, .int b])) := fun H3 t b t0 t1 b0 b1 d3 f3 p hp =>
      k p t b _ t0 t1 b0 b1 (f3.nn p hp) upd_same (d3.upd hp) (f3.trans (Fw.upd hp))
    refine ⟨_, rfl, d, 9, rfl, by decide, by decide, hd, fun r r0 r1 H1 d1 e1 => ?_⟩
    have f1 := Fw.draw d1 e1
    refine ⟨_, rfl, rfl, _, rfl, ?_⟩
    refine ite2 (fun _ => ?_) (fun _ => ?_)
    · refine ⟨2, rfl, by decide, by decide, fun D hD => ?_⟩
      refine lc_range (lo := 0) (n := 2) (fun i H2 => ∃ acc : List V, H2 D = some (.lst acc) ∧ acc.length = i ∧ (∀ v ∈ acc, ∃ n : Int, v = .int n ∧ 0 ≤ n ∧ n ≤ 1000000000000) ∧ DeckAt H2 d ∧ Fw d H H2) ?_ ?_ ?_
      · exact ⟨[], upd_same, rfl, fun v hv => absurd hv (by simp), d1.upd hD, f1.trans (Fw.upd hD)⟩
      · rintro i H2 hi ⟨acc, hA, hl, hall, d2, f2⟩
        have nD : D ≠ d := d1.ne hD
        refine ⟨rfl, tYes_of ?_⟩
        rw [if_pos rfl]
        refine ⟨_, rfl, _, _, rfl, rfl, p6, d, _, rfl, by rw [m6]; decide, by rw [m6]; decide, d2, fun q q0 q1 H3 d3 e3 => ?_⟩
        refine ⟨_, _, rfl, rfl, p6, _, _, rfl, rfl, .inr (by rw [m6]; decide), ?_⟩
        refine ⟨_, rfl, _, _, rfl, rfl, p6, d, _, rfl, by rw [m6]; decide, by rw [m6]; decide, d3, fun u u0 u1 H4 d4 e4 => ?_⟩
        rw [m6] at q1 u1
        refine ⟨_, _, rfl, rfl, acc, by rw [e4 D nD, e3 D nD]; exact hA, small1000 (by omega), ?_⟩
        have f4 : Fw d H H4 := (f2.trans (Fw.draw d3 e3)).trans (Fw.draw d4 e4)
        have hD0 : H D = none := f1.nn D hD
        refine ⟨acc ++ [_], upd_same, by rw [List.length_append, hl]; rfl, fun v hv => ?_, ?_, ?_⟩
        · rcases List.mem_append.mp hv with z | z
          · exact hall v z
          · have z' := List.mem_singleton.mp z
            refine ⟨_, z', ?_, ?_⟩
            · rw [m6]; omega
            · rw [m6]; omega
        · obtain ⟨a, b, c, h⟩ := d4
          exact ⟨a, b, c, by rw [upd_ne (Ne.symm nD)]; exact h⟩
        · refine ⟨fun q o n h => ?_, fun q h => ?_⟩
          · rw [upd_ne (ne_of_none h hD0)]
            exact f4.kp q o n h
          · by_cases z : q = D
            · rw [z, upd_same] at h; cases h
            · rw [upd_ne z] at h
              exact f4.nn q h
      · rintro H2 ⟨acc, hA, hl, hall, d2, f2⟩
        obtain ⟨v1, v2, rfl⟩ : ∃ v1 v2, acc = [v1, v2] := by
          match acc, hl with
          | [v1, v2], _ => exact ⟨v1, v2, rfl⟩
        obtain ⟨t, rfl, t0, t1⟩ := hall v1 (by simp)
        obtain ⟨b, rfl, b0, b1⟩ := hall v2 (by simp)
        refine ⟨D, _, rfl, SqL.of hA, rfl, _, _, rfl, _, _, rfl, rfl, ?_⟩
        refine ⟨_, rfl, _, rfl, 1, b, rfl, (by show 2 ≤ sizeLine; decide), fun p hp => ?_⟩
        refine pair H2 t _ t0 t1 ?_ ?_ d2 f2 p hp
        · split <;> omega
        · split <;> omega
    · refine ⟨_, rfl, _, _, rfl, rfl, _, rfl, ?_⟩
      refine ite2 (fun _ => ?_) (fun _ => ?_)
      · refine ⟨_, rfl, d, 30, rfl, by decide, by decide, d1, fun q q0 q1 H3 d3 e3 => ⟨(by show 2 ≤ sizeLine; decide), fun p hp => ?_⟩⟩
        exact pair H3 q 1 q0 (by omega) (by decide) (by decide) d3 (f1.trans (Fw.draw d3 e3)) p hp
      · refine ⟨_, rfl, _, _, rfl, rfl, _, rfl, ?_⟩
        refine ite2 (fun _ => ?_) (fun _ => ?_)
        · refine ⟨_, rfl, d, 60, rfl, by decide, by decide, d1, fun q q0 q1 H3 d3 e3 => ?_⟩
          refine ⟨_, rfl, d, 12, rfl, by decide, by decide, d3, fun u u0 u1 H4 d4 e4 => ⟨_, _, rfl, rfl, (by show 2 ≤ sizeLine; decide), fun p hp => ?_⟩⟩
          exact pair H4 q (1 + u) q0 (by omega) (by omega) (by omega) d4 ((f1.trans (Fw.draw d3 e3)).trans (Fw.draw d4 e4)) p hp
        · refine ⟨_, rfl, rfl, _, rfl, ?_⟩
          refine ite2 (fun _ => ?_) (fun _ => ?_)
          · refine ⟨(by show 2 ≤ sizeLine; decide), fun pa ha => ⟨(by show 2 ≤ sizeLine; decide), fun pb hb => ⟨(by show 2 ≤ sizeLine; decide), fun pc hc => ⟨(by show 2 ≤ sizeLine; decide), fun pe he => ⟨(by show 4 ≤ sizeLine; decide), fun l hl => ?_⟩⟩⟩⟩⟩
            have da := d1.upd (o := .tup [.int 0, .int 1]) ha
            have db := da.upd (o := .tup [.int 0, .int 7]) hb
            have dc := db.upd (o := .tup [.int 1, .int 1]) hc
            have de := dc.upd (o := .tup [.int 1, .int 2]) he
            have dl := de.upd (o := .lst [.ref pa, .ref pb, .ref pc, .ref pe]) hl
            have fa : Fw d _ _ := Fw.upd (o := .tup [.int 0, .int 1]) ha
            have fb : Fw d _ _ := Fw.upd (o := .tup [.int 0, .int 7]) hb
            have fc : Fw d _ _ := Fw.upd (o := .tup [.int 1, .int 1]) hc
            have fe : Fw d _ _ := Fw.upd (o := .tup [.int 1, .int 2]) he
            have fl : Fw d _ _ := Fw.upd (o := .lst [.ref pa, .ref pb, .ref pc, .ref pe]) hl
            refine ⟨_, rfl, d, 4, rfl, by decide, by decide, dl, fun q q0 q1 H3 d3 e3 => ?_⟩
            have f3 := Fw.draw d3 e3
            have all := f1.trans ((((((fa.trans fb).trans fc).trans fe).trans fl)).trans f3)
            have h3 : H3 l = some (.lst [.ref pa, .ref pb, .ref pc, .ref pe]) := (e3 l (de.ne hl)).trans upd_same
            have h4 : q = 0 ∨ q = 1 ∨ q = 2 ∨ q = 3 := by omega
            rcases h4 with rfl | rfl | rfl | rfl
            · exact ⟨l, _, _, .ref pa, rfl, rfl, SqL.of h3, rfl, k pa 0 1 H3 (by decide) (by decide) (by decide) (by decide) (f1.nn _ ha) (((((fb.trans fc).trans fe).trans fl).trans f3).kp _ _ (d1.ne ha) upd_same) d3 all⟩
            · exact ⟨l, _, _, .ref pb, rfl, rfl, SqL.of h3, rfl, k pb 0 7 H3 (by decide) (by decide) (by decide) (by decide) ((f1.trans fa).nn _ hb) ((((fc.trans fe).trans fl).trans f3).kp _ _ (da.ne hb) upd_same) d3 all⟩
            · exact ⟨l, _, _, .ref pc, rfl, rfl, SqL.of h3, rfl, k pc 1 1 H3 (by decide) (by decide) (by decide) (by decide) (((f1.trans fa).trans fb).nn _ hc) (((fe.trans fl).trans f3).kp _ _ (db.ne hc) upd_same) d3 all⟩
            · exact ⟨l, _, _, .ref pe, rfl, rfl, SqL.of h3, rfl, k pe 1 2 H3 (by decide) (by decide) (by decide) (by decide) ((((f1.trans fa).trans fb).trans fc).nn _ he) ((fl.trans f3).kp _ _ (dc.ne he) upd_same) d3 all⟩
          · refine ⟨_, rfl, _, _, rfl, rfl, p6, _, _, rfl, rfl, d, _, rfl, by rw [m6]; decide, by rw [m6]; decide, d1, fun q q0 q1 H3 d3 e3 => ?_⟩
            refine ⟨_, rfl, _, _, rfl, rfl, p6, d, _, rfl, by rw [m6]; decide, by rw [m6]; decide, d3, fun u u0 u1 H4 d4 e4 => ⟨_, _, rfl, rfl, (by show 2 ≤ sizeLine; decide), fun p hp => ?_⟩⟩
            rw [m6] at q1 u1
            exact pair H4 q (1 + u) q0 (by omega) (by omega) (by omega) d4 ((f1.trans (Fw.draw d3 e3)).trans (Fw.draw d4 e4)) p hp
end
end K
namespace K
open PySem L2 Rp
/-- a number's text -/
def nT (n : Int) : Str := Str.ofString (toString n)
theorem nT_len {n : Int} (h : Sz 1600 n) : (nT n).length ≤ 1601 := by
  unfold nT
  rw [ofString_length]
  exact int_text_length_le (by decide) (h.log (by decide))
theorem append_len (x y : Str) : (x ++ y).length = x.length + y.length := strLen_append x y
theorem join_one (x : Str) : Txt.join "" [x] = x := rfl
/-- a Weight's text by repr -/
def wT (t b : Int) : Str := if b = 1 then Str.empty ++ "Weight(" ++ nT t ++ ")" else Str.empty ++ "Weight(" ++ nT t ++ ", " ++ nT b ++ ")"
theorem wT_len {t b : Int} (ht : Sz 1600 t) (hb : Sz 1600 b) : (wT t b).length ≤ 4000 := by
  have h1 := nT_len ht
  have h2 := nT_len hb
  have e1 : ("Weight(" : Str).length = 7 := by decide +kernel
  have e2 : (")" : Str).length = 1 := by decide +kernel
  have e3 : (", " : Str).length = 2 := by decide +kernel
  have e4 : (Str.empty : Str).length = 0 := by decide +kernel
  unfold wT
  split <;> simp only [append_len] <;> omega

def spShow : Sp := fun vs H Q _ => ∃ n : Int, vs = [.int n] ∧ 0 ≤ n ∧ Sz 1600 n ∧ ∀ H', Same H H' → Q (.str (nT n)) H'
def spRepr (C : Addr) : Sp := fun vs H Q _ => ∃ (p : Addr) (t b : Int), vs = [.ref p] ∧ WAt C H p t b ∧ Wn 1600 t b ∧ ∀ H', Same H H' → Q (.str (wT t b)) H'

section
variable {P : Program} {w : World} {K : PySem.W.Frag} {mg : Str → Option Value} {base : Heap}
theorem scShow : FnScope ["number", "blocks", "low"] ["number"] (defScope sShow) := ⟨rfl, rfl, rfl, by decide +kernel, rfl, by decide +kernel, by decide +kernel⟩
theorem ok_show {f : Addr} {fd : FuncData} {z : Int} {zt : Tok} (F : Fun K "show_whole" "show_whole" sShow f fd) (hst : mg "str" = none) (hrv : mg "reversed" = none) (hB : mg "BLOCK" = some (.int z zt)) (hz : (2 : Int) ^ 1600 ≤ z) :
    FnOk P w K mg base CX0 1 f fd ["number"] spShow := by
  refine F.ok scShow (fun vs H Q E h => ?_) (fun cdv A outer s H vs Q E hr h => ?_)
  · obtain ⟨n, rfl, _⟩ := h
    rfl
  · obtain ⟨n, rfl, n0, nz, k⟩ := h
    refine ⟨_, pss_cons (ps_set (i := 1) scShow.nd rfl (Or.inl rfl) (pe_lst pa_nil))
      (pss_cons (ps_while PassesOwn.never (pt_cmpR op_ge (pv 0) (pe_glob (v := .int z) rfl hB ⟨_, rfl⟩) (nomark _)) pss_never)
      (pss_cons (ps_expr (pe_bm PySem.F.plainAttrs_list PySem.F.slot_list_append PySem.F.type_list_append mt_append (pv 1) (pa_cons (pe_callTy call_str_int (by rfl) hst (by decide +kernel) (pa_cons (pv 0) pa_nil)) pa_nil)))
      (pss_one (ps_ret (pe_joinRev rfl (by rfl) hrv pe_str (pv 1)))))), ?_⟩
    refine ⟨Nat.zero_le _, fun l hl => ?_⟩
    have hlt : ¬ z ≤ n := by
      have h1 : n.natAbs < 2 ^ 1600 := nz
      have h2 : (n.natAbs : Int) = n := by omega
      have h3 : ((2 ^ 1600 : Nat) : Int) = (2 : Int) ^ 1600 := by norm_cast
      have h4 : (n.natAbs : Int) < ((2 ^ 1600 : Nat) : Int) := Int.ofNat_lt.mpr h1
      rw [h2, h3] at h4
      exact Int.not_le.mpr (Int.lt_of_lt_of_le h4 hz)
    refine while_by (fun σ H' => H' = upd H l (.lst []) ∧ σ = [some (.int n), some (.ref l), none]) (fun _ _ => 0) ⟨rfl, rfl⟩ ?_ ?_
    · rintro σ H' ⟨rfl, rfl⟩
      refine ⟨_, rfl, _, _, rfl, rfl, _, rfl, ?_⟩
      rw [decide_eq_false hlt]
      refine iteF ?_
      refine ⟨_, rfl, .inl ⟨rfl, _, SqL.of upd_same⟩, _, rfl, _, rfl, Nat.lt_trans (nz.log (by decide)) (by decide), l, _, _, rfl, rfl, upd_same, by decide, ?_⟩
      have ln := nT_len nz
      refine ⟨"", rfl, _, rfl, l, [nT n], rfl, SqL.of upd_same, ?_, ?_⟩
      · simp only [List.map_cons, List.map_nil, List.sum_cons, List.sum_nil, List.length_cons, List.length_nil]
        have e0 : ("" : Str).length = 0 := by decide +kernel
        rw [e0]
        omega
      · refine k _ fun b o e => ?_
        rw [upd_ne (ne_of_none e hl), upd_ne (ne_of_none e hl)]
        exact e
    · rintro σ H' Q1 Q2 hQ ⟨v, e, i, j, h1, h2, c, h3, q⟩
      exact ⟨v, e, i, j, h1, h2, c, h3, hQ _ _ q⟩
end
end K
namespace K
open PySem L2 Rp
theorem same_upd {H : Hp} {p : Addr} {o : HO} (hp : H p = none) : Same H (upd H p o) := fun y u e => by
  rw [upd_ne (ne_of_none e hp)]
  exact e
/-- an exception's class without an __init__ of its own -/
structure XTxt (K : PySem.W.Frag) (mg : Str → Option Value) (x : Str) (C : Addr) (bm : List Value) (newId : String) : Prop where
  g : mg x = some (.ref C)
  q : PySem.W.excIn K C bm newId = true
  k : PySem.W.keepIn K (.ref C) = true
  b : PySem.W.subIn K (.ref C) (.type "BaseException") = some true
  t : PySem.W.typeIn K (.ref C) = some (.type "type")
abbrev bmZ : List Value := [.type "ZeroDivisionError", .type "ArithmeticError", .type "Exception", .type "BaseException", .type "object"]
abbrev bmV : List Value := [.type "ValueError", .type "Exception", .type "BaseException", .type "object"]
def good (x y : V) : Prop := ∃ t b : Int, x = .int t ∧ y = .int b ∧ 0 ≤ t ∧ 0 < b
def spInitV (K : PySem.W.Frag) (C NZ NW : Addr) : Sp := fun vs H Q E => ∃ (p dx : Addr) (x y : V), vs = [.ref p, x, y] ∧ H p = some (.ins C dx []) ∧ Wh K H x ∧ Wh K H y ∧
  (y = .int 0 → E (.ref NZ) none H) ∧ (y ≠ .int 0 → ¬ good x y → E (.ref NW) none H) ∧
  (∀ t b : Int, x = .int t → y = .int b → 0 ≤ t → 0 < b → Sz 8000 b ∧ Q .non (upd H p (.ins C dx (wf (t / (Int.gcd t b : Nat)) (b / (Int.gcd t b : Nat))))))
theorem isW_int {v : V} (h : isW v = true) : ∃ i, v = .int i := by
  cases v <;> first | exact ⟨_, rfl⟩ | cases h
section
variable {P : Program} {w : World} {K : PySem.W.Frag} {mg : Str → Option Value} {base : Heap}
theorem ok_initV {f C fW NZ NW : Addr} {fd fdW : FuncData} (F : FunI K f fd) (T : WTxt K mg C fW) (GW : FnOk P w K mg base CX0 1 fW fdW ["thing"] (spWholeV K)) (bW : Binds K fdW ["thing"] []) (Z : XTxt K mg "NoWhole" NZ bmZ "ZeroDivisionError.__new__") (Y : XTxt K mg "NoWeight" NW bmV "ValueError.__new__") :
    FnOk P w K mg base (L2.CX P w) 2 f fd ["self", "top", "bottom"] (spInitV K C NZ NW) := by
  refine F.ok scInit (fun vs H Q E h => ?_) (fun cdv A outer s H vs Q E hr h => ?_)
  · obtain ⟨p, dx, x, y, rfl, _⟩ := h
    rfl
  · obtain ⟨p, dx, x, y, rfl, hp, wx, wy, k0, k1, k2⟩ := h
    refine ⟨_, pss_cons (ps_if (PW.pt (pw_and (pt_val (pe_call GW hr (by rfl) T.mgW T.kpW bW .nil pass0 (pa_cons (pv 2) pa_nil))) (pw_and1 (pt_cmpR op_eq (pv 2) pe_int (nomark _))))) (pss_one (ps_raise rfl (takes_of rfl rfl rfl rfl) (pmk_own PySem.F.excBase_ZeroDivisionError Z.q Z.g Z.k (raises_own Z.b Z.t) (by exact rfl)))) pss_nil)
      (pss_cons (ps_if (PW.pt (pw_or (pt_not (pt_val (pe_call GW hr (by rfl) T.mgW T.kpW bW .nil pass0 (pa_cons (pv 1) pa_nil)))) (pw_or (pt_not (pt_val (pe_call GW hr (by rfl) T.mgW T.kpW bW .nil pass0 (pa_cons (pv 2) pa_nil))))
          (pw_or (pt_cmpR op_lt (pv 1) pe_int (nomark _)) (pw_or1 (pt_cmpR op_lt (pv 2) pe_int (nomark _))))))) (pss_one (ps_raise rfl (takes_of rfl rfl rfl rfl) (pmk_own PySem.F.excBase_ValueError Y.q Y.g Y.k (raises_own Y.b Y.t) (by exact rfl)))) pss_nil)
      (pss_cons (ps_set (i := 3) scInit.nd rfl (Or.inl rfl) (pe_callBfun cr_gcd (by rfl) T.gcd (pa_cons (pv 1) (pa_cons (pv 2) pa_nil))))
      (pss_cons (ps_fld (pv 0) (pe_op op_fdivW (pv 1) (pv 3)) rfl)
      (pss_one (ps_fld (pv 0) (pe_op op_fdivW (pv 2) (pv 3)) rfl))))), ?_⟩
    refine ⟨_, rfl, y, rfl, wy, _, rfl, ?_⟩
    by_cases hy : isW y = true
    · obtain ⟨b, rfl⟩ := isW_int hy
      refine iteT ⟨_, rfl, rfl, _, rfl, ?_⟩
      by_cases hb : b = 0
      · subst hb
        exact iteT (k0 rfl)
      · have nb : V.int b ≠ V.int 0 := fun z => hb (by injection z)
        rw [decide_eq_false nb]
        refine iteF ?_
        refine ⟨_, rfl, x, rfl, wx, _, rfl, ?_⟩
        by_cases hx : isW x = true
        · obtain ⟨t, rfl⟩ := isW_int hx
          refine iteF ⟨_, rfl, .int b, rfl, wy, _, rfl, iteF ⟨_, rfl, _, _, rfl, rfl, _, rfl, ?_⟩⟩
          by_cases ht : t < 0
          · rw [decide_eq_true ht]
            exact iteT (iteT (k1 nb fun ⟨t', b', e1, e2, e3, e4⟩ => by injection e1 with e1; omega))
          · rw [decide_eq_false ht]
            refine iteF ⟨_, rfl, _, _, rfl, rfl, _, rfl, ?_⟩
            by_cases hb2 : b < 0
            · rw [decide_eq_true hb2]
              exact iteT (k1 nb fun ⟨t', b', e1, e2, e3, e4⟩ => by injection e2 with e2; omega)
            · rw [decide_eq_false hb2]
              refine iteF ?_
              obtain ⟨hz, kk⟩ := k2 t b rfl rfl (by omega) (by omega)
              have hb' : 0 < b := by omega
              have hg := gcd_pos (t := t) hb'
              have hgz : ∀ i, CDivW i ((Int.gcd t b : Nat) : Int) := fun i => ⟨hg, Nat.lt_trans ((Sz.gcd (t := t) hz hb').log (by decide)) (by decide)⟩
              refine ⟨_, rfl, _, rfl, t, b, rfl, ?_⟩
              refine ⟨_, rfl, _, rfl, _, _, rfl, rfl, hgz _, _, rfl, p, C, dx, _, rfl, hp, T.cl, T.nT, (by show 0 < 1000; decide), ?_⟩
              refine ⟨_, rfl, _, rfl, _, _, rfl, rfl, hgz _, _, rfl, p, C, dx, _, rfl, upd_same, T.cl, T.nB, (by show 1 < 1000; decide), ?_⟩
              show Q .non (upd (upd H p _) p _)
              rw [upd_upd]
              exact kk
        · have hx' : isW x = false := by simpa using hx
          rw [hx']
          exact iteT (iteT (k1 nb fun ⟨t', b', e1, _⟩ => by rw [e1] at hx'; cases hx'))
    · have hy' : isW y = false := by simpa using hy
      have ny : y ≠ .int 0 := fun z => by rw [z] at hy'; cases hy'
      have ng : ¬ good x y := fun ⟨t', b', _, e2, _⟩ => by rw [e2] at hy'; cases hy'
      rw [hy']
      refine iteF (iteF ?_)
      refine ⟨_, rfl, x, rfl, wx, _, rfl, ?_⟩
      by_cases hx : isW x = true
      · rw [hx]
        refine iteF ⟨_, rfl, y, rfl, wy, _, rfl, ?_⟩
        rw [hy']
        exact iteT (iteT (k1 ny ng))
      · have hx' : isW x = false := by simpa using hx
        rw [hx']
        exact iteT (iteT (k1 ny ng))
end
end K
namespace K
open PySem L2 Rp
/-- the module's x is a class; b: whether S is below it -/
def IsC (K : PySem.W.Frag) (mg : Str → Option Value) (S : Addr) (x : Str) (b : Bool) : Prop := ∃ A, mg x = some (.ref A) ∧ PySem.W.kitOne K (.ref S) (.ref A) = some b
/-- what the marks ask of the error's class S -/
structure MTxt (K : PySem.W.Frag) (mg : Str → Option Value) (S : Addr) : Prop where
  e : ExcC K S
  i : mg "isinstance" = none
  c1 : IsC K mg S "NoName" false
  c2 : IsC K mg S "NoGrains" false
  c3 : IsC K mg S "NoDay" false
  c4 : IsC K mg S "NoWeight" true
  c5 : IsC K mg S "NoDeed" false
  c6 : IsC K mg S "NoRow" false
  c7 : IsC K mg S "NoText" false
  c8 : IsC K mg S "Unknown" false
  c9 : IsC K mg S "Unborne" false
  d1 : IsC K mg S "Twice" false
  d2 : IsC K mg S "TooLate" false
  d3 : IsC K mg S "NoSum" false
  d4 : IsC K mg S "Full" false
  d5 : IsC K mg S "NotAlike" false
  k : IsC K mg S "CaskError" true
  w : IsC K mg S "Wrong" true
  v : mg "ValueError" = none
  kv : PySem.W.kitOne K (.ref S) (.type "ValueError") = some true
theorem HasD.same {H H' : Hp} {d : Option Addr} (h : HasD H d) (e : Same H H') : HasD H' d := h.imp id fun ⟨dx, fs, h1, h2⟩ => ⟨dx, fs, h1, e _ _ h2⟩
def spMarks (S : Addr) : SpE := fun a cls d vs H Q _ => ∃ b : Bool, vs = [.ref a, .bl b] ∧ cls = .ref S ∧ HasD H d ∧ ∀ (m : Addr) (H' : Hp), Same H H' → H m = none → H' m = some (.lst [.bl b, .bl true, .bl true, .int 1]) → Q (.ref m) H'
section
variable {P : Program} {w : World} {K : PySem.W.Frag} {mg : Str → Option Value} {base : Heap}
theorem scMarks : FnScope ["_law_e", "_law_right_here", "_law_others"] ["_law_e", "_law_right_here"] (defScope sMarks) := ⟨rfl, rfl, rfl, by decide +kernel, rfl, by decide +kernel, by decide +kernel⟩
theorem ok_marks {f S : Addr} {fd : FuncData} (F : Fun K "_law_marks_of" "_law_marks_of" sMarks f fd) (T : MTxt K mg S) : FnE P w K mg base CX0 1 f fd ["_law_e", "_law_right_here"] (spMarks S) := by
  refine Fun_okE F scMarks (fun a cls d vs H Q E h => ?_) (fun cdv A outer s H vs Q E p cls d hz hf hr h => ?_)
  · obtain ⟨b, rfl, _⟩ := h
    rfl
  · obtain ⟨a, oe⟩ := p
    obtain ⟨b, rfl, rfl, hd, k⟩ := h
    obtain ⟨A1, g1, q1⟩ := T.c1
    obtain ⟨A2, g2, q2⟩ := T.c2
    obtain ⟨A3, g3, q3⟩ := T.c3
    obtain ⟨A4, g4, q4⟩ := T.c4
    obtain ⟨A5, g5, q5⟩ := T.c5
    obtain ⟨A6, g6, q6⟩ := T.c6
    obtain ⟨A7, g7, q7⟩ := T.c7
    obtain ⟨A8, g8, q8⟩ := T.c8
    obtain ⟨A9, g9, q9⟩ := T.c9
    obtain ⟨B1, h1, r1⟩ := T.d1
    obtain ⟨B2, h2, r2⟩ := T.d2
    obtain ⟨B3, h3, r3⟩ := T.d3
    obtain ⟨B4, h4, r4⟩ := T.d4
    obtain ⟨B5, h5, r5⟩ := T.d5
    obtain ⟨A10, g10, q10⟩ := T.k
    have ci : ∀ {X : Cx}, X.pn = [(a, oe)] → CallR X (.builtin "isinstance") (rIsX X.K a (.ref S) d) := fun {X} e => call_isX (by rw [e]; exact List.mem_cons_self) hz hf
    have ct : ∀ {X : Cx}, X.pn = [(a, oe)] → CallR X (.builtin "isinstance") (rIsXT X.K a (.ref S) d) := fun {X} e => call_isXT (by rw [e]; exact List.mem_cons_self) hz hf
    refine ⟨_, pss_cons (ps_set (i := 2) scMarks.nd rfl (Or.inl rfl) (pe_lst (pa_cons (pe_callB (ci rfl) (by rfl) T.i (by decide +kernel) (pa_cons (pv 0) (pa_cons (pe_glob (v := .ref A1) rfl g1 rfl) pa_nil)))
          (pa_cons (pe_callB (ci rfl) (by rfl) T.i (by decide +kernel) (pa_cons (pv 0) (pa_cons (pe_glob (v := .ref A2) rfl g2 rfl) pa_nil)))
          (pa_cons (pe_callB (ci rfl) (by rfl) T.i (by decide +kernel) (pa_cons (pv 0) (pa_cons (pe_glob (v := .ref A3) rfl g3 rfl) pa_nil)))
          (pa_cons (pe_callB (ci rfl) (by rfl) T.i (by decide +kernel) (pa_cons (pv 0) (pa_cons (pe_glob (v := .ref A4) rfl g4 rfl) pa_nil))) pa_nil))))))
      (pss_cons (ps_set (i := 2) scMarks.nd rfl (Or.inl rfl) (pe_op op_cat (pv 2) (pe_lst (pa_cons (pe_callB (ci rfl) (by rfl) T.i (by decide +kernel) (pa_cons (pv 0) (pa_cons (pe_glob (v := .ref A5) rfl g5 rfl) pa_nil)))
          (pa_cons (pe_callB (ci rfl) (by rfl) T.i (by decide +kernel) (pa_cons (pv 0) (pa_cons (pe_glob (v := .ref A6) rfl g6 rfl) pa_nil)))
          (pa_cons (pe_callB (ci rfl) (by rfl) T.i (by decide +kernel) (pa_cons (pv 0) (pa_cons (pe_glob (v := .ref A7) rfl g7 rfl) pa_nil)))
          (pa_cons (pe_callB (ci rfl) (by rfl) T.i (by decide +kernel) (pa_cons (pv 0) (pa_cons (pe_glob (v := .ref A8) rfl g8 rfl) pa_nil))) pa_nil)))))))
      (pss_cons (ps_set (i := 2) scMarks.nd rfl (Or.inl rfl) (pe_op op_cat (pv 2) (pe_lst (pa_cons (pe_callB (ci rfl) (by rfl) T.i (by decide +kernel) (pa_cons (pv 0) (pa_cons (pe_glob (v := .ref A9) rfl g9 rfl) pa_nil)))
          (pa_cons (pe_callB (ct rfl) (by rfl) T.i (by decide +kernel) (pa_cons (pv 0) (pa_cons (pe_tup (pa_cons (pe_glob (v := .ref B1) rfl h1 rfl) (pa_cons (pe_glob (v := .ref B2) rfl h2 rfl) (pa_cons (pe_glob (v := .ref B3) rfl h3 rfl) (pa_cons (pe_glob (v := .ref B4) rfl h4 rfl) (pa_cons (pe_glob (v := .ref B5) rfl h5 rfl) pa_nil)))))) pa_nil))) pa_nil)))))
      (pss_one (ps_ret (pe_lst (pa_cons (pv 1) (pa_cons (pe_callB (ci rfl) (by rfl) T.i (by decide +kernel) (pa_cons (pv 0) (pa_cons (pe_glob (v := .ref A10) rfl g10 rfl) pa_nil)))
          (pa_cons (pe_callB (ci rfl) (by rfl) T.i (by decide +kernel) (pa_cons (pv 0) (pa_cons (pe_bltn (v := .ty "ValueError") (by rfl) T.v (by decide +kernel) rfl) pa_nil)))
          (pa_cons (pe_bm PySem.F.plainAttrs_list PySem.F.slot_list_count PySem.F.type_list_count mt_bcount (pv 2) (pa_cons pe_bl pa_nil)) pa_nil))))))))), ?_⟩
    have small : ∀ n, n ≤ 100 → n ≤ sizeLine := fun n h => Nat.le_trans h (by decide)
    refine ⟨_, rfl, S, _, _, _, rfl, rfl, T.e, .own _, hd, q1, _, rfl, S, _, _, _, rfl, rfl, T.e, .own _, hd, q2, _, rfl, S, _, _, _, rfl, rfl, T.e, .own _, hd, q3, _, rfl, S, _, _, _, rfl, rfl, T.e, .own _, hd, q4, (by show 4 ≤ sizeLine; decide), fun l1 hl1 => ?_⟩
    have s1 := same_upd (o := .lst [.bl false, .bl false, .bl false, .bl true]) hl1
    have d1 := HasD.same hd s1
    refine ⟨_, rfl, _, rfl, S, _, _, _, rfl, rfl, T.e, .own _, d1, q5, _, rfl, S, _, _, _, rfl, rfl, T.e, .own _, d1, q6, _, rfl, S, _, _, _, rfl, rfl, T.e, .own _, d1, q7, _, rfl, S, _, _, _, rfl, rfl, T.e, .own _, d1, q8, (by show 4 ≤ sizeLine; decide), fun l2 hl2 => ?_⟩
    have s2 := s1.trans (same_upd (o := .lst [.bl false, .bl false, .bl false, .bl false]) hl2)
    refine ⟨l1, l2, _, _, rfl, rfl, same_upd hl2 _ _ upd_same, upd_same, (by show 8 ≤ sizeLine; decide), fun l3 hl3 => ?_⟩
    have s3 := s2.trans (same_upd (o := .lst ([V.bl false, .bl false, .bl false, .bl true] ++ [V.bl false, .bl false, .bl false, .bl false])) hl3)
    have d3 := HasD.same hd s3
    refine ⟨_, rfl, _, rfl, S, _, _, _, rfl, rfl, T.e, .own _, d3, q9, _, rfl, (by show 5 ≤ sizeLine; decide), fun tp htp => ?_⟩
    have s4 := s3.trans (same_upd (o := .tup [.ref B1, .ref B2, .ref B3, .ref B4, .ref B5]) htp)
    refine ⟨S, tp, _, _, false, rfl, rfl, T.e, upd_same, .cons (.own _) (.cons (.own _) (.cons (.own _) (.cons (.own _) (.cons (.own _) .nil)))), HasD.same hd s4,
      kitAny_cons r1 (fun _ => kitAny_cons r2 (fun _ => kitAny_cons r3 (fun _ => kitAny_cons r4 (fun _ => kitAny_cons r5 (fun _ => kitAny_nil) (fun z => nomatch z)) (fun z => nomatch z)) (fun z => nomatch z)) (fun z => nomatch z)) (fun z => nomatch z),
      (by show 2 ≤ sizeLine; decide), fun l4 hl4 => ?_⟩
    have s5 := s4.trans (same_upd (o := .lst [.bl false, .bl false]) hl4)
    refine ⟨l3, l4, _, _, rfl, rfl, same_upd hl4 _ _ (same_upd htp _ _ upd_same), upd_same, (by show 10 ≤ sizeLine; decide), fun l5 hl5 => ?_⟩
    have s6 := s5.trans (same_upd (o := .lst (([V.bl false, .bl false, .bl false, .bl true] ++ [V.bl false, .bl false, .bl false, .bl false]) ++ [V.bl false, .bl false])) hl5)
    have d6 := HasD.same hd s6
    refine ⟨_, rfl, _, rfl, S, _, _, _, rfl, rfl, T.e, .own _, d6, q10, _, rfl, S, _, _, _, rfl, rfl, T.e, .ty _, d6, T.kv, _, rfl, .inl ⟨rfl, _, SqL.of upd_same⟩, ?_⟩
    refine ⟨l5, [false, false, false, true, false, false, false, false, false, false], true, rfl, rfl, SqL.of upd_same, ?_⟩
    refine ⟨(by show 4 ≤ sizeLine; decide), fun m hm => ?_⟩
    exact k m _ (s6.trans (same_upd hm)) (Fw.same (d := m) s6 m hm) upd_same
end
end K
namespace K
open PySem L2 Rp
section
variable {P : Program} {w : World} {K : PySem.W.Frag} {mg : Str → Option Value} {base : Heap}
theorem scRepr : FnScope ["self"] ["self"] (defScope sRepr) := ⟨rfl, rfl, rfl, by decide +kernel, rfl, by decide +kernel, by decide +kernel⟩
theorem ok_repr {f C fW fS : Addr} {fd fdS : FuncData} (F : Fun K "__repr__" "Weight.__repr__" sRepr f fd) (T : WTxt K mg C fW) (cS : Cl K mg "show_whole" fS fdS ["number"]) (GS : FnOk P w K mg base CX0 1 fS fdS ["number"] spShow) :
    FnOk P w K mg base CX0 2 f fd ["self"] (spRepr C) := by
  refine F.ok scRepr (fun vs H Q E h => ?_) (fun cdv A outer s H vs Q E hr h => ?_)
  · obtain ⟨p, t, b, rfl, _⟩ := h
    rfl
  · obtain ⟨p, t, b, rfl, ⟨dx, hp⟩, n1, k⟩ := h
    refine ⟨_, pss_cons (ps_if (pt_cmpR op_eq (pe_fld (pv 0) rfl) pe_int (nomark _)) (pss_one (ps_ret (pe_joined (.cons pe_str (.cons (pe_fmt (pe_call GS hr (by rfl) cS.g cS.k cS.b .nil pass0 (pa_cons (pe_fld (pv 0) rfl) pa_nil))) (.cons pe_str .nil)))))) pss_nil)
      (pss_one (ps_ret (pe_joined (.cons pe_str (.cons (pe_fmt (pe_call GS hr (by rfl) cS.g cS.k cS.b .nil pass0 (pa_cons (pe_fld (pv 0) rfl) pa_nil))) (.cons pe_str (.cons (pe_fmt (pe_call GS hr (by rfl) cS.g cS.k cS.b .nil pass0 (pa_cons (pe_fld (pv 0) rfl) pa_nil))) (.cons pe_str .nil)))))))), ?_⟩
    have l1 := nT_len n1.tz
    have l2 := nT_len n1.bz
    have e1 : ("Weight(" : Str).length = 7 := by decide +kernel
    have e2 : (")" : Str).length = 1 := by decide +kernel
    have e3 : (", " : Str).length = 2 := by decide +kernel
    have e4 : (Str.empty : Str).length = 0 := by decide +kernel
    have big : ∀ n, n ≤ 10000 → n ≤ sizeLine := fun n h => Nat.le_trans h (by decide)
    refine ⟨_, rfl, p, C, dx, _, _, rfl, hp, T.cl, T.nB, wf_bottom _ _, rfl, _, rfl, ?_⟩
    refine ite2 (fun h => ?_) (fun h => ?_)
    · have hb : b = 1 := by
        have := of_decide_eq_true h
        injection this
      refine ⟨"Weight(", rfl, big _ (by rw [append_len]; omega), _, rfl, p, C, dx, _, _, rfl, hp, T.cl, T.nT, wf_top _ _, t, rfl, n1.t0, n1.tz, fun H1 s1 => .inl ⟨_, rfl, big _ (by omega), nT t, rfl, big _ (by simp only [append_len]; omega), ")", rfl, big _ (by simp only [append_len]; omega), ?_⟩⟩
      have ew : wT t b = Str.empty ++ "Weight(" ++ nT t ++ ")" := if_pos hb
      have q := k H1 s1
      rw [ew] at q
      exact q
    · have hb : ¬ b = 1 := fun z => h (decide_eq_true (by rw [z]))
      refine ⟨"Weight(", rfl, big _ (by rw [append_len]; omega), _, rfl, p, C, dx, _, _, rfl, hp, T.cl, T.nT, wf_top _ _, t, rfl, n1.t0, n1.tz, fun H1 s1 => .inl ⟨_, rfl, big _ (by omega), nT t, rfl, big _ (by simp only [append_len]; omega), ", ", rfl, big _ (by simp only [append_len]; omega), ?_⟩⟩
      refine ⟨_, rfl, p, C, dx, _, _, rfl, s1 _ _ hp, T.cl, T.nB, wf_bottom _ _, b, rfl, Int.le_of_lt n1.b0, n1.bz, fun H2 s2 => .inl ⟨_, rfl, big _ (by omega), nT b, rfl, big _ (by simp only [append_len]; omega), ")", rfl, big _ (by simp only [append_len]; omega), ?_⟩⟩
      have ew : wT t b = Str.empty ++ "Weight(" ++ nT t ++ ", " ++ nT b ++ ")" := if_neg hb
      have q := k H2 (s1.trans s2)
      rw [ew] at q
      exact q
end
end K
/-! things of any kind: what repr tells of them is settled, their kinds are known -/
namespace K
open PySem L2 Rp
/-- a thing: n how deep, L how long its text is at most, as: what it is made of -/
inductive Th (C : Addr) (H : Hp) : Nat → Nat → List Addr → V → Prop where
  | non {n L as} : 4 ≤ L → Th C H n L as .non
  | bl {n L as} (b : Bool) : 5 ≤ L → Th C H n L as (.bl b)
  | int {n L as} {i : Int} : Sz 1600 i → 1601 ≤ L → Th C H n L as (.int i)
  | str {n L as} {x : Str} : (reprText x).length ≤ L → (reprText x).length ≤ sizeLine → Th C H n L as (.str x)
  | wt {n L as p t b} : 3 ≤ n → p ∈ as → WAt C H p t b → Wn 1600 t b → 4000 ≤ L → Th C H n L as (.ref p)
  | tup {n L n' L' as as' a xs} : H a = some (.tup xs) → a ∉ as → (∀ v ∈ xs, Th C H n L as v) → n + 2 ≤ n' → xs.length * (L + 2) + 3 ≤ L' → (∀ b, b ∈ a :: as → b ∈ as') → Th C H n' L' as' (.ref a)
  | lst {n L n' L' as as' a xs} : H a = some (.lst xs) → a ∉ as → (∀ v ∈ xs, Th C H n L as v) → n + 2 ≤ n' → xs.length * (L + 2) + 3 ≤ L' → (∀ b, b ∈ a :: as → b ∈ as') → Th C H n' L' as' (.ref a)
  | dic {n L n' L' as as' a} {kvs : List (Key × V)} : H a = some (.dK kvs) → a ∉ as → (∀ kv ∈ kvs, Th C H n L as (kV kv.1)) → (∀ kv ∈ kvs, Th C H n L as kv.2) → n + 2 ≤ n' → kvs.length * (2 * L + 4) + 3 ≤ L' → (∀ b, b ∈ a :: as → b ∈ as') → Th C H n' L' as' (.ref a)
section
variable {C : Addr} {H H' : Hp} {n L m M : Nat} {as as' : List Addr} {v : V}
theorem Th.mono (h : Th C H n L as v) (h1 : n ≤ m) (h2 : L ≤ M) (h3 : ∀ b ∈ as, b ∈ as') : Th C H m M as' v := by
  cases h with
  | non q => exact .non (Nat.le_trans q h2)
  | bl b q => exact .bl b (Nat.le_trans q h2)
  | int i q => exact .int i (Nat.le_trans q h2)
  | str q z => exact .str (Nat.le_trans q h2) z
  | wt a b c d e => exact .wt (Nat.le_trans a h1) (h3 _ b) c d (Nat.le_trans e h2)
  | tup a b c d e f => exact .tup a b c (Nat.le_trans d h1) (Nat.le_trans e h2) fun x q => h3 _ (f x q)
  | lst a b c d e f => exact .lst a b c (Nat.le_trans d h1) (Nat.le_trans e h2) fun x q => h3 _ (f x q)
  | dic a b c c' d e f => exact .dic a b c c' (Nat.le_trans d h1) (Nat.le_trans e h2) fun x q => h3 _ (f x q)
theorem Th.congr (h : Th C H n L as v) : (∀ b ∈ as, ∀ o, H b = some o → H' b = some o) → Th C H' n L as v := by
  induction h with
  | non q => exact fun _ => .non q
  | bl b q => exact fun _ => .bl b q
  | int i q => exact fun _ => .int i q
  | str q z => exact fun _ => .str q z
  | wt a b c d e => exact fun x => .wt a b (let ⟨dx, hc⟩ := c; ⟨dx, x _ b _ hc⟩) d e
  | tup a b c d e f ih => exact fun x => .tup (x _ (f _ List.mem_cons_self) _ a) b (fun v hv => ih v hv fun y hy => x y (f y (List.mem_cons_of_mem _ hy))) d e f
  | lst a b c d e f ih => exact fun x => .lst (x _ (f _ List.mem_cons_self) _ a) b (fun v hv => ih v hv fun y hy => x y (f y (List.mem_cons_of_mem _ hy))) d e f
  | dic a b c c' d e f ih1 ih2 => exact fun x => .dic (x _ (f _ List.mem_cons_self) _ a) b (fun v hv => ih1 v hv fun y hy => x y (f y (List.mem_cons_of_mem _ hy))) (fun v hv => ih2 v hv fun y hy => x y (f y (List.mem_cons_of_mem _ hy))) d e f
end
/-! its text -/
theorem pick {α : Type} {p : α → Str → Prop} : ∀ xs : List α, (∀ v ∈ xs, ∃ t, p v t) → ∃ ts : List Str, ts.length = xs.length ∧ (∀ t ∈ ts, ∃ v, v ∈ xs ∧ p v t) ∧ ∀ (i : Nat) (x : α), xs[i]? = some x → ∃ t, ts[i]? = some t ∧ p x t
  | [], _ => ⟨[], rfl, fun t ht => (nomatch ht), fun i x h => by cases h⟩
  | x :: xs, h => by
    obtain ⟨t, ht⟩ := h x List.mem_cons_self
    obtain ⟨ts, h1, h2, h3⟩ := pick xs fun v hv => h v (List.mem_cons_of_mem _ hv)
    refine ⟨t :: ts, by rw [List.length_cons, List.length_cons, h1], fun u hu => ?_, fun i y hy => ?_⟩
    · rcases List.mem_cons.mp hu with rfl | hu
      · exact ⟨x, List.mem_cons_self, ht⟩
      · obtain ⟨v, hv, q⟩ := h2 u hu
        exact ⟨v, List.mem_cons_of_mem _ hv, q⟩
    · cases i with
      | zero => cases hy; exact ⟨t, rfl, ht⟩
      | succ i => exact h3 i y hy
theorem piled_le {B : Nat} : ∀ ts : List Str, (∀ t ∈ ts, t.length ≤ B) → piled ts ≤ ts.length * (B + 2)
  | [], _ => Nat.le_of_eq (by simp [piled])
  | t :: ts, h => by
    have ih := piled_le ts fun u hu => h u (List.mem_cons_of_mem _ hu)
    have h0 := h t List.mem_cons_self
    rw [piled_cons, List.length_cons, Nat.add_mul]
    omega
theorem join_le {B : Nat} {ts : List Str} (h : ∀ t ∈ ts, t.length ≤ B) : (Str.join ", " ts).length ≤ ts.length * (B + 2) := by
  have hp := piled_le ts h
  by_cases e : ts = []
  · subst e
    exact Nat.zero_le _
  · have := join_length_add ts e
    omega
theorem tupleText_le {B : Nat} {ts : List Str} (h : ∀ t ∈ ts, t.length ≤ B) : (tupleText ts).length ≤ ts.length * (B + 2) + 3 := by
  have hj := join_le h
  unfold tupleText
  rw [strLen_append, strLen_append]
  have e1 : ((("(" : String) : Str)).length = 1 := rfl
  have e3 : (((if ts.length == 1 then ",)" else ")" : String) : Str)).length ≤ 2 := by split <;> decide
  omega
theorem dictText_le {B : Nat} {ts : List Str} (h : ∀ t ∈ ts, t.length ≤ B) : (dictText ts).length ≤ ts.length * (B + 2) + 3 := by
  have hj := join_le h
  unfold dictText
  rw [strLen_append, strLen_append]
  have e1 : ((("{" : String) : Str)).length = 1 := rfl
  have e3 : ((("}" : String) : Str)).length = 1 := rfl
  omega
theorem sum_piled : ∀ ts : List Str, (ts.map (·.length)).sum + 2 * ts.length = piled ts
  | [] => rfl
  | t :: ts => by
    have ih := sum_piled ts
    rw [piled_cons, List.map_cons, List.sum_cons, List.length_cons]
    omega
theorem listText_le {B : Nat} {ts : List Str} (h : ∀ t ∈ ts, t.length ≤ B) : (listText ts).length ≤ ts.length * (B + 2) + 3 := by
  have hp := piled_le ts h
  have h1 := textFrom_len_le ts 0 "["
  have h2 := sum_piled ts
  unfold listText
  rw [strLen_append]
  have e1 : ((("[" : String) : Str)).length = 1 := rfl
  have e3 : ((("]" : String) : Str)).length = 1 := rfl
  omega
section
variable {P : Program} {w : World} {K : PySem.W.Frag} {mg : Str → Option Value} {base : Heap}
/-- what is asked of a context -/
structure Ctx (X : Cx) (P : Program) (w : World) (K : PySem.W.Frag) (mg : Str → Option Value) (base : Heap) : Prop where
  p : X.prog = P
  w : X.w = w
  K : X.K = K
  mg : X.mg = mg
  base : X.base = base
/-- v's text is t, wherever the parts named as stand -/
def Tells (P : Program) (w : World) (K : PySem.W.Frag) (mg : Str → Option Value) (base : Heap) (n L : Nat) (as : List Addr) (H : Hp) (v : V) (t : Str) : Prop :=
  t.length ≤ L ∧ ∀ X : Cx, Ctx X P w K mg base → ∀ H', (∀ b ∈ as, ∀ o, H b = some o → H' b = some o) → Says X n as H' v t
theorem Th.tells {C fR : Addr} {fd : FuncData} (aR : PySem.W.findIn K (.ref C) "__repr__" = some (some (.ref fR))) (iR : PySem.W.isFn K (.ref fR) = true) (bR : Binds K fd ["self"] []) (GR : FnOk P w K mg base CX0 2 fR fd ["self"] (spRepr C))
    {H : Hp} {n L : Nat} {as : List Addr} {v : V} (h : Th C H n L as v) : ∃ t, Tells P w K mg base n L as H v t := by
  induction h with
  | non q => exact ⟨("None" : String), q, fun X _ H' _ => says_non.mono (Nat.zero_le _) fun _ z => nomatch z⟩
  | bl b q => exact ⟨(if b then "True" else "False" : String), by cases b <;> first | exact q | exact Nat.le_trans (by decide) q, fun X _ H' _ => (says_bl b).mono (Nat.zero_le _) fun _ z => nomatch z⟩
  | @int n L as i z q =>
    refine ⟨_, Nat.le_trans (nT_len z) q, fun X _ H' _ => (says_int (Nat.lt_trans (z.log (by decide)) (by decide))).mono (Nat.zero_le _) fun _ z => nomatch z⟩
  | str q z => exact ⟨_, q, fun X _ H' _ => (says_str z).mono (Nat.zero_le _) fun _ z => nomatch z⟩
  | @wt n L as p t b hn hm hw nn q =>
    refine ⟨wT t b, Nat.le_trans (wT_len nn.tz nn.bz) q, fun X c H' e => ?_⟩
    obtain ⟨rfl, rfl, rfl, rfl, rfl⟩ := c
    obtain ⟨dx, hp⟩ := hw
    refine (says_own (t := wT t b) GR aR iR bR pass0 (e p hm _ hp) fun H1 s1 => ?_).mono hn fun _ z => nomatch z
    exact ⟨p, t, b, rfl, ⟨dx, s1 _ _ (e p hm _ hp)⟩, nn, fun H2 s2 => ⟨rfl, s2⟩⟩
  | @tup n L n' L' as as' a xs h1 h2 h3 h4 h5 h6 ih =>
    obtain ⟨ts, e1, e2, e3⟩ := pick (p := fun v t => Tells P w K mg base n L as H v t) xs ih
    refine ⟨tupleText ts, Nat.le_trans (tupleText_le (B := L) fun t ht => let ⟨_, _, q⟩ := e2 t ht; q.1) (by rw [e1]; exact h5), fun X c H' e => ?_⟩
    refine (says_tup (n := n) (as := as) (ts := ts) (SqT.of (e a (h6 a List.mem_cons_self) _ h1)) h2 e1 fun i x hx => ?_).mono h4 h6
    obtain ⟨t, ht, q⟩ := e3 i x hx
    exact ⟨t, ht, q.2 X c H' fun b hb => e b (h6 b (List.mem_cons_of_mem _ hb))⟩
  | @lst n L n' L' as as' a xs h1 h2 h3 h4 h5 h6 ih =>
    obtain ⟨ts, e1, e2, e3⟩ := pick (p := fun v t => Tells P w K mg base n L as H v t) xs ih
    refine ⟨listText ts, Nat.le_trans (listText_le (B := L) fun t ht => let ⟨_, _, q⟩ := e2 t ht; q.1) (by rw [e1]; exact h5), fun X c H' e => ?_⟩
    refine (says_lst (n := n) (as := as) (ts := ts) (SqL.of (e a (h6 a List.mem_cons_self) _ h1)) h2 e1 fun i x hx => ?_).mono h4 h6
    obtain ⟨t, ht, q⟩ := e3 i x hx
    exact ⟨t, ht, q.2 X c H' fun b hb => e b (h6 b (List.mem_cons_of_mem _ hb))⟩
  | @dic n L n' L' as as' a kvs h1 h2 h3 h3' h4 h5 h6 ih1 ih2 =>
    obtain ⟨ts, e1, e2, e3⟩ := pick (p := fun (kv : Key × V) t => ∃ t1 t2 : Str, t = t1 ++ ": " ++ t2 ∧ Tells P w K mg base n L as H (kV kv.1) t1 ∧ Tells P w K mg base n L as H kv.2 t2) kvs fun kv hk => by
      obtain ⟨t1, q1⟩ := ih1 kv hk
      obtain ⟨t2, q2⟩ := ih2 kv hk
      exact ⟨_, t1, t2, rfl, q1, q2⟩
    have l2 : ((": " : String) : Str).length = 2 := rfl
    refine ⟨dictText ts, Nat.le_trans (dictText_le (B := 2 * L + 2) fun t ht => ?_) (by rw [e1]; exact h5), fun X c H' e => ?_⟩
    · obtain ⟨_, _, t1, t2, rfl, q1, q2⟩ := e2 t ht
      rw [strLen_append, strLen_append]
      have := q1.1
      have := q2.1
      omega
    · refine (says_dict (n := n) (as := as) (ts := ts) (kvs := kvs) (e a (h6 a List.mem_cons_self) _ h1) h2 fun od => ⟨e1, fun i k v hkv => ?_⟩).mono h4 h6
      obtain ⟨t, ht, t1, t2, rfl, q1, q2⟩ := e3 i (k, v) hkv
      have up : ∀ b ∈ as, ∀ o, H b = some o → (upd H' a (.frz od (.dK kvs))) b = some o := fun b hb o ho => by
        rw [upd_ne (fun z : b = a => h2 (z ▸ hb))]
        exact e b (h6 b (List.mem_cons_of_mem _ hb)) o ho
      exact ⟨t1, t2, ht, q1.2 X c _ up, q2.2 X c _ up⟩
/-- its kind -/
theorem Th.wh {C : Addr} {H : Hp} {n L : Nat} {as : List Addr} {v : V} (h : Th C H n L as v) (cl : Cls K C) (N : WIns K C) (ki : PySem.W.kitOne K (.ref C) (.type "int") = some false) (kb : PySem.W.kitOne K (.ref C) (.type "bool") = some false) : Wh K H v := by
  cases h with
  | non q => exact ⟨_, false, false, .base .non, kit_ty (by decide +kernel), kit_ty (by decide +kernel), rfl⟩
  | bl b q => exact ⟨_, true, true, .base (.bl b), kit_ty (by decide +kernel), kit_ty (by decide +kernel), rfl⟩
  | int i q => exact wh_int
  | str q z => exact ⟨_, false, false, .base (.str _), kit_ty (by decide +kernel), kit_ty (by decide +kernel), rfl⟩
  | wt a b c d e =>
    obtain ⟨dx, hp⟩ := c
    exact ⟨_, false, false, .base (.ins hp cl N.ha N.hn N.htk N.hm), ki, kb, rfl⟩
  | tup a b c d e f => exact ⟨_, false, false, .base (.tup a), kit_ty (by decide +kernel), kit_ty (by decide +kernel), rfl⟩
  | lst a b c d e f => exact ⟨_, false, false, .base (.lst a), kit_ty (by decide +kernel), kit_ty (by decide +kernel), rfl⟩
  | dic a b c c' d e f => exact ⟨_, false, false, .base (.dK a), kit_ty (by decide +kernel), kit_ty (by decide +kernel), rfl⟩
end
/-! a thing that doesn't speak of the deck d -/
def Od (C d : Addr) (N M : Nat) (H : Hp) (v : V) : Prop := ∃ as, d ∉ as ∧ (∀ b ∈ as, H b ≠ none) ∧ Th C H N M as v
section
variable {C d : Addr} {H H' : Hp} {N M N' M' : Nat} {v : V}
theorem Od.fw {C d : Addr} {H H' : Hp} {N M : Nat} {v : V} (h : Od C d N M H v) (f : Fw d H H') : Od C d N M H' v := by
  obtain ⟨as, h1, h2, h3⟩ := h
  refine ⟨as, h1, fun b hb z => h2 b hb (f.nn b z), h3.congr fun b hb o ho => f.kp b o (fun z => h1 (z ▸ hb)) ho⟩
theorem Od.same (h : Od C d N M H v) (e : Same H H') : Od C d N M H' v := h.fw (Fw.of_same e)
theorem Od.mono (h : Od C d N M H v) (h1 : N ≤ N') (h2 : M ≤ M') : Od C d N' M' H v := by
  obtain ⟨as, a, b, c⟩ := h
  exact ⟨as, a, b, c.mono h1 h2 fun _ z => z⟩
theorem od_non (h : 4 ≤ M) : Od C d N M H .non := ⟨[], List.not_mem_nil, (fun b hb => nomatch hb), .non h⟩
theorem od_bl {b : Bool} (h : 5 ≤ M) : Od C d N M H (.bl b) := ⟨[], List.not_mem_nil, (fun b hb => nomatch hb), .bl b h⟩
theorem od_int {i : Int} (z : Sz 1600 i) (h : 1601 ≤ M) : Od C d N M H (.int i) := ⟨[], List.not_mem_nil, (fun b hb => nomatch hb), .int z h⟩
theorem od_str {x : Str} (h : (reprText x).length ≤ M) (z : (reprText x).length ≤ sizeLine) : Od C d N M H (.str x) := ⟨[], List.not_mem_nil, (fun b hb => nomatch hb), .str h z⟩
theorem od_wt {p : Addr} {t b : Int} (h : WAt C H p t b) (n : Wn 1600 t b) (nd : p ≠ d) (h1 : 3 ≤ N) (h2 : 4000 ≤ M) : Od C d N M H (.ref p) := by
  refine ⟨[p], fun z => nd (List.mem_singleton.mp z).symm, fun b hb e => ?_, .wt h1 List.mem_cons_self h n h2⟩
  obtain ⟨dx, hp⟩ := h
  rw [List.mem_singleton.mp hb, hp] at e
  cases e
/-- several at once -/
theorem od_all {xs : List V} (h : ∀ v ∈ xs, Od C d N M H v) : ∃ as, d ∉ as ∧ (∀ b ∈ as, H b ≠ none) ∧ ∀ v ∈ xs, Th C H N M as v := by
  induction xs with
  | nil => exact ⟨[], List.not_mem_nil, fun b hb => (nomatch hb), fun v hv => nomatch hv⟩
  | cons x xs ih =>
    obtain ⟨as, a1, a2, a3⟩ := ih fun v hv => h v (List.mem_cons_of_mem _ hv)
    obtain ⟨bs, b1, b2, b3⟩ := h x List.mem_cons_self
    refine ⟨bs ++ as, fun z => (List.mem_append.mp z).elim b1 a1, fun b hb => (List.mem_append.mp hb).elim (b2 b) (a2 b), fun v hv => ?_⟩
    rcases List.mem_cons.mp hv with rfl | hv
    · exact b3.mono (Nat.le_refl _) (Nat.le_refl _) fun b hb => List.mem_append_left _ hb
    · exact (a3 v hv).mono (Nat.le_refl _) (Nat.le_refl _) fun b hb => List.mem_append_right _ hb
theorem od_tup {a : Addr} {xs : List V} (ha : H a = none) (nd : a ≠ d) (h : ∀ v ∈ xs, Od C d N M H v) (h1 : N + 2 ≤ N') (h2 : xs.length * (M + 2) + 3 ≤ M') : Od C d N' M' (upd H a (.tup xs)) (.ref a) := by
  obtain ⟨as, a1, a2, a3⟩ := od_all h
  have na : a ∉ as := fun z => a2 a z ha
  have up : ∀ b ∈ as, ∀ o, H b = some o → (upd H a (.tup xs)) b = some o := fun b hb o ho => by
    rw [upd_ne (fun z : b = a => na (z ▸ hb))]
    exact ho
  refine ⟨a :: as, fun z => (List.mem_cons.mp z).elim (fun z => nd z.symm) a1, fun b hb z => ?_, .tup upd_same na (fun v hv => (a3 v hv).congr up) h1 h2 fun b hb => hb⟩
  by_cases e : b = a
  · rw [e, upd_same] at z
    cases z
  · rw [upd_ne e] at z
    exact a2 b ((List.mem_cons.mp hb).resolve_left e) z
theorem od_lst {a : Addr} {xs : List V} (ha : H a = none) (nd : a ≠ d) (h : ∀ v ∈ xs, Od C d N M H v) (h1 : N + 2 ≤ N') (h2 : xs.length * (M + 2) + 3 ≤ M') : Od C d N' M' (upd H a (.lst xs)) (.ref a) := by
  obtain ⟨as, a1, a2, a3⟩ := od_all h
  have na : a ∉ as := fun z => a2 a z ha
  have up : ∀ b ∈ as, ∀ o, H b = some o → (upd H a (.lst xs)) b = some o := fun b hb o ho => by
    rw [upd_ne (fun z : b = a => na (z ▸ hb))]
    exact ho
  refine ⟨a :: as, fun z => (List.mem_cons.mp z).elim (fun z => nd z.symm) a1, fun b hb z => ?_, .lst upd_same na (fun v hv => (a3 v hv).congr up) h1 h2 fun b hb => hb⟩
  by_cases e : b = a
  · rw [e, upd_same] at z
    cases z
  · rw [upd_ne e] at z
    exact a2 b ((List.mem_cons.mp hb).resolve_left e) z
theorem od_dic {a : Addr} {kvs : List (Key × V)} (ha : H a = none) (nd : a ≠ d) (h : ∀ kv ∈ kvs, Od C d N M H kv.2 ∧ ∃ k : Int, kv.1 = .inl k ∧ Sz 1600 k) (hM : 1601 ≤ M) (h1 : N + 2 ≤ N') (h2 : kvs.length * (2 * M + 4) + 3 ≤ M') : Od C d N' M' (upd H a (.dK kvs)) (.ref a) := by
  obtain ⟨as, a1, a2, a3⟩ := od_all (xs := kvs.map (·.2)) fun v hv => by
    obtain ⟨kv, hk, rfl⟩ := List.mem_map.mp hv
    exact (h kv hk).1
  have na : a ∉ as := fun z => a2 a z ha
  have up : ∀ b ∈ as, ∀ o, H b = some o → (upd H a (.dK kvs)) b = some o := fun b hb o ho => by
    rw [upd_ne (fun z : b = a => na (z ▸ hb))]
    exact ho
  refine ⟨a :: as, fun z => (List.mem_cons.mp z).elim (fun z => nd z.symm) a1, fun b hb z => ?_, .dic upd_same na (fun kv hk => ?_) (fun kv hk => (a3 _ (List.mem_map.mpr ⟨kv, hk, rfl⟩)).congr up) h1 h2 fun b hb => hb⟩
  · by_cases e : b = a
    · rw [e, upd_same] at z
      cases z
    · rw [upd_ne e] at z
      exact a2 b ((List.mem_cons.mp hb).resolve_left e) z
  · obtain ⟨_, k, ek, zk⟩ := h kv hk
    rw [ek]
    exact .int zk hM
end
end K
namespace K
open PySem L2 Rp
theorem al0 {p : V → Prop} : ∀ v ∈ ([] : List V), p v := fun _ h => nomatch h
theorem al {p : V → Prop} {x : V} {xs : List V} (h : p x) (t : ∀ v ∈ xs, p v) : ∀ v ∈ x :: xs, p v := fun v hv => (List.mem_cons.mp hv).elim (fun e => e ▸ h) (t v)
theorem at_in {xs : List V} {q : Int} (h0 : 0 ≤ q) (h1 : q < (xs.length : Int)) : ∃ v, atI xs q = some v ∧ v ∈ xs := by
  have h2 : q.toNat < xs.length := by omega
  have e : xs[q.toNat]? = some xs[q.toNat] := List.getElem?_eq_getElem h2
  refine ⟨_, ?_, List.getElem_mem h2⟩
  have e2 := atI_nat e
  rwa [Int.toNat_of_nonneg h0] at e2
def spOdd (C : Addr) : Sp := fun vs H Q _ => ∃ d : Addr, vs = [.ref d] ∧ DeckAt H d ∧ ∀ (v : V) (H' : Hp), Od C d 20 300000 H' v → DeckAt H' d → Fw d H H' → Q v H'
def Ld : Nat → Nat
  | 0 => 1601
  | n + 1 => 2 * Ld n + 7
theorem Ld_big : ∀ n, 1601 ≤ Ld n
  | 0 => Nat.le_refl _
  | n + 1 => by
    have := Ld_big n
    show 1601 ≤ 2 * Ld n + 7
    omega
section
variable {P : Program} {w : World} {K : PySem.W.Frag} {mg : Str → Option Value} {base : Heap}
theorem scOdd : FnScope ["_law_deck_here", "_law_deep", "_law_k", "_law_some"] ["_law_deck_here"] (defScope sOdd) := ⟨rfl, rfl, rfl, by decide +kernel, rfl, by decide +kernel, by decide +kernel⟩
theorem ok_odd {f C fW fI fD : Addr} {fd dI fdD : FuncData} (F : Fun K "_law_odd" "_law_odd" sOdd f fd) (T : WTxt K mg C fW) (hrg : mg "range" = none) (hln : mg "len" = none)
    (M : Mk K C fI) (GI : FnOk P w K mg base CX0 2 fI dI ["self", "top", "bottom"] (spInit C)) (bI : Binds K dI ["self", "top", "bottom"] []) {ds : List Value} (vd : Vals [V.int 1] ds) (bI1 : Binds K dI ["self", "top", "bottom"] ds)
    (cD : Cl K mg "_law_draw" fD fdD ["_law_deck_here", "_law_most"]) (GD : FnOk P w K mg base CX0 1 fD fdD ["_law_deck_here", "_law_most"] spDraw) : FnOk P w K mg base CX0 4 f fd ["_law_deck_here"] (spOdd C) := by
  refine F.ok scOdd (fun vs H Q E h => ?_) (fun cdv A outer s H vs Q E hr h => ?_)
  · obtain ⟨d, rfl, _⟩ := h
    rfl
  · obtain ⟨d, rfl, hd, k⟩ := h
    refine ⟨_, (pss_cons (ps_set (i := 1) scOdd.nd rfl (Or.inl rfl) pe_int)
    (pss_cons (ps_for PassesOwn.never rfl (pi_range1 (by rfl) hrg (pa_cons pe_int pa_nil)) (pg_name (i := 2) scOdd.nd rfl (Or.inl rfl))
      (pss_one (ps_set (i := 1) scOdd.nd rfl (Or.inl rfl) (pe_ix ix_list (pe_lst (pa_cons (pe_tup (pa_cons (pv 1) pa_nil)) (pa_cons (pe_lst (pa_cons (pv 1) pa_nil)) (pa_cons (pe_disp (pps_cons pe_int (pv 1) pps_nil) (by rfl) (by rfl) (fun z => by cases z) (by decide)) pa_nil)))) (pe_call GD (hr.mono (by decide)) (by rfl) cD.g cD.k cD.b .nil pass0 (pa_cons (pv 0) (pa_cons pe_int pa_nil))) (fun _ _ => rfl)))))
    (pss_cons (ps_set (i := 3) scOdd.nd rfl (Or.inl rfl) (pe_lst (pa_cons pe_non (pa_cons pe_bl (pa_cons pe_bl (pa_cons pe_int (pa_cons pe_int (pa_cons pe_int (pa_cons (pe_un un_neg pe_int) (pa_cons (pe_op op_pow pe_int pe_int) (pa_cons (pe_op op_sub pe_int (pe_op op_pow pe_int pe_int)) (pa_cons pe_str (pa_cons pe_str (pa_cons pe_str (pa_cons pe_str (pa_cons pe_str (pa_cons (pe_tup pa_nil) (pa_cons (pe_tup (pa_cons pe_int pa_nil)) (pa_cons (pe_tup (pa_cons pe_int (pa_cons pe_int pa_nil))) (pa_cons (pe_lst pa_nil) pa_nil))))))))))))))))))))
    (pss_cons (ps_set (i := 3) scOdd.nd rfl (Or.inl rfl) (pe_op op_cat (pv 3) (pe_lst (pa_cons (pe_lst (pa_cons pe_int pa_nil)) (pa_cons (pe_lst (pa_cons pe_str pa_nil)) (pa_cons pe_dnewK (pa_cons (pe_disp (pps_cons pe_int pe_int pps_nil) (by rfl) (by rfl) (fun z => by cases z) (by decide)) (pa_cons (pv 1) (pa_cons (pe_make M GI (hr.mono (by decide)) (by rfl) T.mgC bI1 vd pass0 (pa_cons pe_int pa_nil)) (pa_cons (pe_make M GI (hr.mono (by decide)) (by rfl) T.mgC bI .nil pass0 (pa_cons pe_int (pa_cons pe_int pa_nil))) (pa_cons (pe_tup (pa_cons (pe_make M GI (hr.mono (by decide)) (by rfl) T.mgC bI1 vd pass0 (pa_cons pe_int pa_nil)) pa_nil)) (pa_cons pe_str (pa_cons pe_str pa_nil)))))))))))))
    (pss_one (ps_ret (pe_ix ix_list (pv 3) (pe_call GD (hr.mono (by decide)) (by rfl) cD.g cD.k cD.b .nil pass0 (pa_cons (pv 0) (pa_cons (pe_callB call_len_seq (by rfl) hln PySem.boot_len (pa_cons (pv 3) pa_nil)) pa_nil))) (fun _ _ => rfl)))))))), ?_⟩
    have up : ∀ {H p o}, H p = none → Fw d H (upd H p o) := fun h => Fw.upd h
    refine ⟨6, rfl, by decide, by decide, for_range (lo := 0) (n := 6) (fun j σ H2 => ∃ v u, σ = [some (.ref d), some v, u, none] ∧ Od C d (2 * j) (Ld j) H2 v ∧ DeckAt H2 d ∧ Fw d H H2) ?_ ?_ ?_⟩
    · exact ⟨.int 0, none, rfl, od_int (by unfold Sz; decide) (Nat.le_refl _), hd, Fw.refl d H⟩
    · rintro j σ H2 hj ⟨v, u, rfl, ov, d2, f2⟩
      have lb := Ld_big j
      have h1 : 2 * j + 2 ≤ 2 * (j + 1) := by omega
      have h2 : 1 * (Ld j + 2) + 3 ≤ Ld (j + 1) := by show _ ≤ 2 * Ld j + 7; omega
      have h3 : 1 * (2 * Ld j + 4) + 3 ≤ Ld (j + 1) := by show _ ≤ 2 * Ld j + 7; omega
      refine ⟨_, rfl, (by show 1 ≤ sizeLine; decide), fun pa ha => ⟨_, rfl, (by show 1 ≤ sizeLine; decide), fun pb hb pc hc => ⟨_, rfl, upd_same, [(.inl 0, v)], rfl, (by show 1 ≤ 15; decide), (by show 3 ≤ sizeLine; decide), fun l hl => ?_⟩⟩⟩
      have em : mergeK [] [((.inl 0 : Key), v)] = [(.inl 0, v)] := rfl
      rw [upd_upd, em] at hl ⊢
      have da := d2.upd (o := .tup [v]) ha
      have db := da.upd (o := .lst [v]) hb
      have dc := db.upd (o := .dK [(.inl 0, v)]) hc
      have dl := dc.upd (o := .lst [.ref pa, .ref pb, .ref pc]) hl
      have oa := od_tup (xs := [v]) ha (d2.ne ha) (al ov al0) h1 h2
      have ob := od_lst (xs := [v]) hb (da.ne hb) (al (ov.fw (up ha)) al0) h1 h2
      have oc := od_dic (kvs := [(.inl 0, v)]) hc (db.ne hc) (fun kv hk => by
        cases List.mem_singleton.mp hk
        exact ⟨(ov.fw (up ha)).fw (up hb), 0, rfl, by unfold Sz; decide⟩) lb h1 h3
      refine ⟨_, rfl, d, 3, rfl, by decide, by decide, dl, fun q q0 q1 H3 d3 e3 => ?_⟩
      have f3 := Fw.draw d3 e3
      have all := f2.trans (((((up (o := .tup [v]) ha).trans (up (o := .lst [v]) hb)).trans (up (o := .dK [(.inl 0, v)]) hc)).trans (up (o := .lst [.ref pa, .ref pb, .ref pc]) hl)).trans f3)
      have hl3 : H3 l = some (.lst [.ref pa, .ref pb, .ref pc]) := (e3 l (dc.ne hl)).trans upd_same
      have els := al (p := Od C d (2 * (j + 1)) (Ld (j + 1)) H3) ((((oa.fw (up hb)).fw (up hc)).fw (up hl)).fw f3) (al (((ob.fw (up hc)).fw (up hl)).fw f3) (al ((oc.fw (up hl)).fw f3) al0))
      obtain ⟨x, hx, mx⟩ := at_in (xs := [.ref pa, .ref pb, .ref pc]) q0 q1
      exact ⟨l, _, _, x, rfl, rfl, SqL.of hl3, hx, x, _, rfl, els x mx, d3, all⟩
    · rintro σ H2 ⟨v, u, rfl, ov, d2, f2⟩
      have p39 : CPow (10 : Int) (39 : Int) := (by show (0:Int) ≤ 39 ∧ (39:Int) ≤ 1000000 ∧ (10:Int).natAbs < 2 ^ 64; decide)
      refine ⟨_, rfl, _, _, rfl, rfl, p39, _, _, rfl, rfl, p39, _, _, rfl, rfl, (by show 0 ≤ sizeLine; decide), fun p1 h1 => ⟨(by show 1 ≤ sizeLine; decide), fun p2 h2 => ⟨(by show 2 ≤ sizeLine; decide), fun p3 h3 => ⟨(by show 0 ≤ sizeLine; decide), fun p4 h4 => ⟨(by show 18 ≤ sizeLine; decide), fun l1 hl1 => ?_⟩⟩⟩⟩⟩
      generalize hxs1 : [V.non, V.bl true, V.bl false, V.int 0, V.int 1, V.int 2, V.int (-1), V.int (10 ^ (39 : Int).toNat), V.int (1 - 10 ^ (39 : Int).toNat), V.str "", V.str "0", V.str "a", V.str "c0", V.str "7/2", V.ref p1, V.ref p2, V.ref p3, V.ref p4] = xs1 at *
      have z0 : Sz 1600 0 := by unfold Sz; decide
      have z1 : Sz 1600 1 := by unfold Sz; decide
      have z2 : Sz 1600 2 := by unfold Sz; decide
      have d3 := d2.upd (o := .tup []) h1
      have d4 := d3.upd (o := .tup [.int 0]) h2
      have d5 := d4.upd (o := .tup [.int 1, .int 2]) h3
      have d6 := d5.upd (o := .lst []) h4
      have d7 := d6.upd (o := .lst xs1) hl1
      have o1 := od_tup (C := C) (N := 0) (M := 1601) (N' := 20) (M' := 300000) h1 (d2.ne h1) al0 (by decide) (by show 0 * (1601 + 2) + 3 ≤ 300000; decide)
      have o2 := od_tup (C := C) (N := 0) (M := 1601) (N' := 20) (M' := 300000) h2 (d3.ne h2) (al (od_int z0 (Nat.le_refl _)) al0) (by decide) (by show 1 * (1601 + 2) + 3 ≤ 300000; decide)
      have o3 := od_tup (C := C) (N := 0) (M := 1601) (N' := 20) (M' := 300000) h3 (d4.ne h3) (al (od_int z1 (Nat.le_refl _)) (al (od_int z2 (Nat.le_refl _)) al0)) (by decide) (by show 2 * (1601 + 2) + 3 ≤ 300000; decide)
      have o4 := od_lst (C := C) (N := 0) (M := 1601) (N' := 20) (M' := 300000) h4 (d5.ne h4) al0 (by decide) (by show 0 * (1601 + 2) + 3 ≤ 300000; decide)
      have oi : ∀ {H : Hp} {i : Int}, Sz 1600 i → Od C d 20 300000 H (.int i) := fun z => od_int z (by decide)
      have os : ∀ {H : Hp} {x : Str}, (reprText x).length ≤ 100 → Od C d 20 300000 H (.str x) := fun z => od_str (Nat.le_trans z (by decide)) (Nat.le_trans z (by decide))
      have all1 : ∀ v ∈ xs1, Od C d 20 300000 (upd (upd (upd (upd (upd H2 p1 (.tup [])) p2 (.tup [.int 0])) p3 (.tup [.int 1, .int 2])) p4 (.lst [])) l1 (.lst xs1)) v := by
        rw [← hxs1]
        refine al (od_non (by decide)) (al (od_bl (by decide)) (al (od_bl (by decide)) (al (oi z0) (al (oi z1) (al (oi z2) (al (oi (by unfold Sz; decide)) (al (oi (by unfold Sz; decide +kernel)) (al (oi (by unfold Sz; decide +kernel))
          (al (os (by decide +kernel)) (al (os (by decide +kernel)) (al (os (by decide +kernel)) (al (os (by decide +kernel)) (al (os (by decide +kernel)) (al ?_ (al ?_ (al ?_ (al ?_ al0)))))))))))))))))
        all_goals rw [hxs1]
        · exact (((o1.fw (up h2)).fw (up h3)).fw (up h4)).fw (up hl1)
        · exact ((o2.fw (up h3)).fw (up h4)).fw (up hl1)
        · exact (o3.fw (up h4)).fw (up hl1)
        · exact o4.fw (up hl1)
      have len1 : xs1.length = 18 := by rw [← hxs1]; rfl
      have fA := f2.trans ((((((up (o := .tup []) h1).trans (up (o := .tup [.int 0]) h2)).trans (up (o := .tup [.int 1, .int 2]) h3)).trans (up (o := .lst []) h4)).trans (up (o := .lst xs1) hl1)))
      have ovA := (((((ov.fw (up (o := .tup []) h1)).fw (up (o := .tup [.int 0]) h2)).fw (up (o := .tup [.int 1, .int 2]) h3)).fw (up (o := .lst []) h4)).fw (up (o := .lst xs1) hl1)).mono (N' := 20) (M' := 300000) (by decide) (by decide +kernel)
      have hlA : (upd (upd (upd (upd (upd H2 p1 (.tup [])) p2 (.tup [.int 0])) p3 (.tup [.int 1, .int 2])) p4 (.lst [])) l1 (.lst xs1)) l1 = some (.lst xs1) := upd_same
      have nl1 := d6.ne hl1
      generalize upd (upd (upd (upd (upd H2 p1 (.tup [])) p2 (.tup [.int 0])) p3 (.tup [.int 1, .int 2])) p4 (.lst [])) l1 (.lst xs1) = HA at *
      clear o1 o2 o3 o4 d3 d4 d5 d6 h1 h2 h3 h4 hl1
      -- the second row
      refine ⟨_, rfl, (by show 1 ≤ sizeLine; decide), fun p5 h5 => ⟨(by show 1 ≤ sizeLine; decide), fun p6 h6 p7 h7 p8 h8 => ⟨upd_same, [(.inl 0, .int 1)], rfl, (by show 1 ≤ 15; decide), _, rfl, fun x1 dx1 nx1 ndx1 ne1 => ?_⟩⟩⟩
      have em : mergeK [] [((.inl 0 : Key), V.int 1)] = [(.inl 0, V.int 1)] := rfl
      rw [upd_upd, em] at nx1 ndx1 ⊢
      have e5 := d7.upd (o := .lst [.int 0]) h5
      have e6 := e5.upd (o := .lst [.str "a"]) h6
      have e7 := e6.upd (o := .dK []) h7
      have e8 := e7.upd (o := .dK [(.inl 0, .int 1)]) h8
      have o5 := od_lst (C := C) (N := 0) (M := 1601) (N' := 20) (M' := 300000) h5 (d7.ne h5) (al (od_int z0 (Nat.le_refl _)) al0) (by decide) (by show 1 * (1601 + 2) + 3 ≤ 300000; decide)
      have o6 := od_lst (C := C) (N := 0) (M := 1601) (N' := 20) (M' := 300000) h6 (e5.ne h6) (al (od_str (x := "a") (by decide +kernel) (by decide +kernel)) al0) (by decide) (by show 1 * (1601 + 2) + 3 ≤ 300000; decide)
      have o7 := od_dic (C := C) (kvs := []) (N := 0) (M := 1601) (N' := 20) (M' := 300000) h7 (e6.ne h7) (fun _ z => nomatch z) (by decide) (by decide) (by show 0 * (2 * 1601 + 4) + 3 ≤ 300000; decide)
      have o8 := od_dic (C := C) (kvs := [(.inl 0, .int 1)]) (N := 0) (M := 1601) (N' := 20) (M' := 300000) h8 (e7.ne h8) (fun kv hk => by
        cases List.mem_singleton.mp hk
        exact ⟨od_int z1 (Nat.le_refl _), 0, rfl, z0⟩) (by decide) (by decide) (by show 1 * (2 * 1601 + 4) + 3 ≤ 300000; decide)
      have u58 := (((up (o := .lst [.int 0]) h5).trans (up (o := .lst [.str "a"]) h6)).trans (up (o := .dK []) h7)).trans (up (o := .dK [(.inl 0, .int 1)]) h8)
      have o5 := ((o5.fw (up (o := .lst [.str "a"]) h6)).fw (up (o := .dK []) h7)).fw (up (o := .dK [(.inl 0, .int 1)]) h8)
      have o6 := (o6.fw (up (o := .dK []) h7)).fw (up (o := .dK [(.inl 0, .int 1)]) h8)
      have o7 := o7.fw (up (o := .dK [(.inl 0, .int 1)]) h8)
      have ovB := ovA.fw u58
      have fB := fA.trans u58
      have hlB := u58.kp _ _ nl1 hlA
      have all1B : ∀ v ∈ xs1, Od C d 20 300000 _ v := fun v hv => (all1 v hv).fw u58
      generalize upd (upd (upd (upd HA p5 (.lst [.int 0])) p6 (.lst [.str "a"])) p7 (.dK [])) p8 (.dK [(.inl 0, V.int 1)]) = HB at *
      clear e5 e6 e7 h5 h6 h7 h8 u58 all1 hlA
      have s1 := same_make (C := C) (fs := wf (1 / ((Int.gcd 1 1 : Nat) : Int)) (1 / ((Int.gcd 1 1 : Nat) : Int))) nx1 ndx1
      have w1 : WAt C (upd (upd (upd HB dx1 (.own x1)) x1 (.ins C dx1 [])) x1 (.ins C dx1 (wf (1 / ((Int.gcd 1 1 : Nat) : Int)) (1 / ((Int.gcd 1 1 : Nat) : Int))))) x1 (lowT 1 1) (lowB 1 1) := ⟨dx1, upd_same⟩
      refine ⟨x1, dx1, 1, 1, rfl, upd_same, by decide, by decide, by unfold Sz; decide, rfl, fun x2 dx2 nx2 ndx2 ne2 => ?_⟩
      have n1 := e8.ne nx1
      have e9 := e8.same s1
      generalize upd (upd (upd HB dx1 (.own x1)) x1 (.ins C dx1 [])) x1 (.ins C dx1 (wf (1 / ((Int.gcd 1 1 : Nat) : Int)) (1 / ((Int.gcd 1 1 : Nat) : Int)))) = HC at *
      have s2 := same_make (C := C) (fs := wf (7 / ((Int.gcd 7 2 : Nat) : Int)) (2 / ((Int.gcd 7 2 : Nat) : Int))) nx2 ndx2
      have w2 : WAt C (upd (upd (upd HC dx2 (.own x2)) x2 (.ins C dx2 [])) x2 (.ins C dx2 (wf (7 / ((Int.gcd 7 2 : Nat) : Int)) (2 / ((Int.gcd 7 2 : Nat) : Int))))) x2 (lowT 7 2) (lowB 7 2) := ⟨dx2, upd_same⟩
      refine ⟨x2, dx2, 7, 2, rfl, upd_same, by decide, by decide, by unfold Sz; decide, rfl, fun x3 dx3 nx3 ndx3 ne3 => ?_⟩
      have n2 := e9.ne nx2
      have e10 := DeckAt.same e9 s2
      generalize upd (upd (upd HC dx2 (.own x2)) x2 (.ins C dx2 [])) x2 (.ins C dx2 (wf (7 / ((Int.gcd 7 2 : Nat) : Int)) (2 / ((Int.gcd 7 2 : Nat) : Int)))) = HD at *
      have s3 := same_make (C := C) (fs := wf (0 / ((Int.gcd 0 1 : Nat) : Int)) (1 / ((Int.gcd 0 1 : Nat) : Int))) nx3 ndx3
      have w3 : WAt C (upd (upd (upd HD dx3 (.own x3)) x3 (.ins C dx3 [])) x3 (.ins C dx3 (wf (0 / ((Int.gcd 0 1 : Nat) : Int)) (1 / ((Int.gcd 0 1 : Nat) : Int))))) x3 (lowT 0 1) (lowB 0 1) := ⟨dx3, upd_same⟩
      refine ⟨x3, dx3, 0, 1, rfl, upd_same, by decide, by decide, by unfold Sz; decide, rfl, (by show 1 ≤ sizeLine; decide), fun p9 h9 => ⟨(by show 10 ≤ sizeLine; decide), fun l2 hl2 => ?_⟩⟩
      have n3 := e10.ne nx3
      have e11 := DeckAt.same e10 s3
      generalize upd (upd (upd HD dx3 (.own x3)) x3 (.ins C dx3 [])) x3 (.ins C dx3 (wf (0 / ((Int.gcd 0 1 : Nat) : Int)) (1 / ((Int.gcd 0 1 : Nat) : Int)))) = HE at *
      have e12 := e11.upd (o := .tup [.ref x3]) h9
      have sm : ∀ {t b : Int}, 0 ≤ t → 0 < b → Sz 1600 t → Sz 1600 b → Wn 1600 (lowT t b) (lowB t b) := fun a b c d => Wn.low ⟨a, b, c, d⟩
      have m1 := sm (t := 1) (b := 1) (by decide) (by decide) z1 z1
      have m2 := sm (t := 7) (b := 2) (by decide) (by decide) (by unfold Sz; decide) z2
      have m3 := sm (t := 0) (b := 1) (by decide) (by decide) z0 z1
      have o9 := od_tup (C := C) (N := 3) (M := 4000) (N' := 20) (M' := 300000) h9 (e11.ne h9) (al (od_wt w3 m3 n3 (by decide) (by decide)) al0) (by decide) (by show 1 * (4000 + 2) + 3 ≤ 300000; decide)
      have g3 := up (o := .tup [.ref x3]) h9
      have gall := ((Fw.of_same (d := d) s1).trans (Fw.of_same s2)).trans ((Fw.of_same s3).trans g3)
      have q1 := ((od_wt (N := 20) (M := 300000) (d := d) w1 m1 n1 (by decide) (by decide)).fw (Fw.of_same s2)).fw ((Fw.of_same s3).trans g3)
      have q2 := (od_wt (N := 20) (M := 300000) (d := d) w2 m2 n2 (by decide) (by decide)).fw ((Fw.of_same s3).trans g3)
      have hlC := gall.kp _ _ nl1 hlB
      have fC := fB.trans gall
      have els2 := al (p := fun v => Od C d 20 300000 _ v) (o5.fw gall) (al (o6.fw gall) (al (o7.fw gall) (al (o8.fw gall) (al (ovB.fw gall) (al q1 (al q2 (al o9 (al (os (x := "\n") (by decide +kernel)) (al (os (x := "Weight(1)") (by decide +kernel)) al0)))))))))
      have els1 : ∀ v ∈ xs1, Od C d 20 300000 _ v := fun v hv => (all1B v hv).fw gall
      have nl2 := e12.ne hl2
      have e13 := e12.upd (o := .lst [.ref p5, .ref p6, .ref p7, .ref p8, v, .ref x1, .ref x2, .ref p9, .str "\n", .str "Weight(1)"]) hl2
      have g4 := up (o := .lst [.ref p5, .ref p6, .ref p7, .ref p8, v, .ref x1, .ref x2, .ref p9, .str "\n", .str "Weight(1)"]) hl2
      refine ⟨l1, l2, _, _, rfl, rfl, g4.kp _ _ nl1 hlC, upd_same, (by rw [len1]; show 18 + 10 ≤ sizeLine; decide), fun l3 hl3 => ?_⟩
      have g5 := up (o := .lst (xs1 ++ [.ref p5, .ref p6, .ref p7, .ref p8, v, .ref x1, .ref x2, .ref p9, .str "\n", .str "Weight(1)"])) hl3
      have e14 := e13.upd (o := .lst (xs1 ++ [.ref p5, .ref p6, .ref p7, .ref p8, v, .ref x1, .ref x2, .ref p9, .str "\n", .str "Weight(1)"])) hl3
      have nl3 := e13.ne hl3
      have len3 : (xs1 ++ [V.ref p5, .ref p6, .ref p7, .ref p8, v, .ref x1, .ref x2, .ref p9, .str "\n", .str "Weight(1)"]).length = 28 := by rw [List.length_append, len1]; rfl
      refine ⟨_, rfl, _, rfl, _, rfl, l3, _, rfl, .inl (SqL.of upd_same), d, _, rfl, by rw [len3]; decide, by rw [len3]; decide, e14, fun q q0 q1' H9 d9 e9' => ?_⟩
      have g6 := Fw.draw d9 e9'
      obtain ⟨x, hx, mx⟩ := at_in q0 q1'
      refine ⟨l3, _, _, x, rfl, rfl, SqL.of ((e9' l3 nl3).trans upd_same), hx, k x H9 ?_ d9 (fC.trans ((g4.trans g5).trans g6))⟩
      have g46 := (g4.trans g5).trans g6
      rcases List.mem_append.mp mx with z | z
      · exact (els1 x z).fw g46
      · exact (els2 x z).fw g46
end
end K
namespace K
open PySem L2 Rp
def WhS (K : PySem.W.Frag) (H : Hp) (v : V) : Prop := ∀ H', Same H H' → Wh K H' v
theorem WhS.same {K : PySem.W.Frag} {H H' : Hp} {v : V} (h : WhS K H v) (e : Same H H') : WhS K H' v := fun H2 e2 => h H2 (e.trans e2)
def spHeard (K : PySem.W.Frag) (C : Addr) : Sp := fun vs H Q _ => ∃ x y : V, vs = [x, y] ∧ WhS K H x ∧ WhS K H y ∧
  (y = .int 0 → ∀ (r m : Addr) (H' : Hp), Same H H' → H' r = some (.lst [.non, .ref m]) → H' m = some (.lst [.str "whole", .bl true, .bl false]) → Q (.ref r) H') ∧
  (y ≠ .int 0 → ¬ good x y → ∀ (r m n : Addr) (H' : Hp), Same H H' → H' r = some (.lst [.non, .ref m]) → H' m = some (.lst [.str "weight", .bl true, .ref n]) → H' n = some (.lst [.bl true, .bl true, .bl true, .int 1]) → Q (.ref r) H') ∧
  (∀ t b : Int, x = .int t → y = .int b → 0 ≤ t → 0 < b → Sz 8000 b ∧ ∀ (r m p : Addr) (H' : Hp), Same H H' → H' r = some (.lst [.ref p, .ref m]) → H' m = some (.lst []) → WAt C H' p (lowT t b) (lowB t b) → Q (.ref r) H')
section
variable {P : Program} {w : World} {K : PySem.W.Frag} {mg : Str → Option Value} {base : Heap}
theorem scHeard : FnScope ["_law_top", "_law_bottom", "_law_told", "_law_e"] ["_law_top", "_law_bottom"] (defScope sHeard) := ⟨rfl, rfl, rfl, by decide +kernel, rfl, by decide +kernel, by decide +kernel⟩
theorem ok_heard {f C NZ NW CE fW fI fM : Addr} {fd dI fdM : FuncData} (F : Fun K "_law_heard" "_law_heard" sHeard f fd) (T : WTxt K mg C fW) (M : Mk K C fI) (GI : FnOk P w K mg base (L2.CX P w) 2 fI dI ["self", "top", "bottom"] (spInitV K C NZ NW)) (bI : Binds K dI ["self", "top", "bottom"] [])
    (MT : MTxt K mg NW) (EZ : ExcC K NZ) (cM : Cl K mg "_law_marks_of" fM fdM ["_law_e", "_law_right_here"]) (GM : FnE P w K mg base CX0 1 fM fdM ["_law_e", "_law_right_here"] (spMarks NW))
    (gZ : mg "NoWhole" = some (.ref NZ)) (gE : mg "CaskError" = some (.ref CE)) (hz0 : mg "ZeroDivisionError" = none) (kz1 : PySem.W.kitOne K (.ref NZ) (.type "ZeroDivisionError") = some true) (kz2 : PySem.W.kitOne K (.ref NZ) (.type "ValueError") = some false)
    (xZ : PySem.W.exmOne K (.ref NZ) (.ref NZ) = some true) (xN : PySem.W.exmOne K (.ref NW) (.ref NZ) = some false) (xW : PySem.W.exmOne K (.ref NW) (.ref CE) = some true) : FnOk P w K mg base CX0 4 f fd ["_law_top", "_law_bottom"] (spHeard K C) := by
  refine F.ok scHeard (fun vs H Q E h => ?_) (fun cdv A outer s H vs Q E hr h => ?_)
  · obtain ⟨x, y, rfl, _⟩ := h
    rfl
  · obtain ⟨x, y, rfl, wx, wy, k0, k1, k2⟩ := h
    have hrh : L2H.RoomH 1 _ := L2H.roomH_of (hr.mono (by decide))
    obtain ⟨Ab, gb, qb⟩ := MT.c4
    obtain ⟨Aw, gw, qw⟩ := MT.w
    refine ⟨_, pss_cons (ps_set (i := 2) scHeard.nd rfl (Or.inl rfl) (pe_lst (pa_cons pe_non (pa_cons (pe_lst pa_nil) pa_nil))))
      (pss_cons (ps_try_named rfl rfl scHeard.nd
        (fun W pn xe tk _ => pss_one (ps_asg (pe_makeS (E := WE W) M GI hr (by rfl) T.mgC bI (fun σ => passAt tk σ) (pa_cons (pv 0) (pa_cons (pv 1) pa_nil))) (pg_sub (pv 2) pe_int set_list)))
        (.more (i := 3) (c := .ref NZ) rfl rfl ⟨rfl, by decide, .inl gZ⟩
          (fun a oe cls d pn hz hf => pss_one (ps_asg (pe_lst (pa_cons pe_str (pa_cons (pe_callB (call_isS hz hf) (by rfl) MT.i (by decide +kernel) (pa_cons (pv 3) (pa_cons (pe_bltn (v := .ty "ZeroDivisionError") (by rfl) hz0 (by decide +kernel) rfl) pa_nil)))
            (pa_cons (pe_callB (call_isS hz hf) (by rfl) MT.i (by decide +kernel) (pa_cons (pv 3) (pa_cons (pe_bltn (v := .ty "ValueError") (by rfl) MT.v (by decide +kernel) rfl) pa_nil))) pa_nil)))) (pg_sub (pv 2) pe_int set_list)))
        (.more (i := 3) (c := .ref CE) rfl rfl ⟨rfl, by decide, .inl gE⟩
          (fun a oe cls d pn hz hf => pss_one (ps_asg (pe_lst (pa_cons pe_str (pa_cons (pe_callB (call_isS hz hf) (by rfl) MT.i (by decide +kernel) (pa_cons (pv 3) (pa_cons (pe_glob (v := .ref Aw) rfl gw rfl) pa_nil)))
            (pa_cons (pe_callE GM ⟨hrh.dp, hrh.un⟩ List.mem_cons_self hz hf (by rfl) cM.g cM.k cM.b pass0 (pa_cons (pv 3) (pa_cons (pe_callB (call_isS hz hf) (by rfl) MT.i (by decide +kernel) (pa_cons (pv 3) (pa_cons (pe_glob (v := .ref Ab) rfl gb rfl) pa_nil))) pa_nil))) pa_nil)))) (pg_sub (pv 2) pe_int set_list)))
        .none)))
      (pss_one (ps_ret (pv 2)))), ?_⟩
    refine ⟨Nat.zero_le _, fun m hm => ⟨(by show 2 ≤ sizeLine; decide), fun r hr0 => ?_⟩⟩
    have s1 := (same_upd (o := .lst []) hm).trans (same_upd (o := .lst [.non, .ref m]) hr0)
    have nmr : m ≠ r := fun z => by rw [← z, upd_same] at hr0; cases hr0
    have hm1 : (upd (upd H m (.lst [])) r (.lst [V.non, .ref m])) m = some (.lst []) := by rw [upd_ne nmr]; exact upd_same
    have hr1 : (upd (upd H m (.lst [])) r (.lst [V.non, .ref m])) r = some (.lst [V.non, .ref m]) := upd_same
    have hm0 : H m = none := hm
    have hr00 : H r = none := Fw.same (d := r) (same_upd (o := .lst []) hm) r hr0
    generalize upd (upd H m (.lst [])) r (.lst [V.non, .ref m]) = H1 at *
    refine ⟨_, rfl, _, rfl, fun p dx np ndx ne => ?_⟩
    have s2 : Same H1 (upd (upd H1 dx (.own p)) p (.ins C dx [])) := (same_upd ndx).trans (same_upd (by rw [upd_ne (Ne.symm ne)]; exact np))
    have hr2 := s2 _ _ hr1
    have hm2 := s2 _ _ hm1
    refine ⟨p, dx, x, y, rfl, upd_same, wx _ (s1.trans s2), wy _ (s1.trans s2), fun e => ?_, fun e g => ?_, fun t b ex ey ht hb => ?_⟩
    · generalize upd (upd H1 dx (.own p)) p (.ins C dx []) = H2 at *
      refine ⟨true, xZ, fun _ a ha => ?_, fun z => nomatch z⟩
      refine ⟨_, rfl, NZ, _, _, _, rfl, rfl, EZ, .ty _, .inl rfl, kz1, _, rfl, NZ, _, _, _, rfl, rfl, EZ, .ty _, .inl rfl, kz2, (by show 3 ≤ sizeLine; decide), fun m2 hm2' => ?_⟩
      have n2 : m2 ≠ r := fun z => by rw [z, hr2] at hm2'; cases hm2'
      refine ⟨_, rfl, r, _, _, 1, rfl, rfl, same_upd hm2' _ _ hr2, rfl, ?_⟩
      refine ⟨_, rfl, k0 e r m2 _ (fun q o hq => ?_) upd_same (by rw [upd_ne n2]; exact upd_same)⟩
      rw [upd_ne (ne_of_none hq hr00)]
      exact same_upd hm2' _ _ ((s1.trans s2) _ _ hq)
    · generalize upd (upd H1 dx (.own p)) p (.ins C dx []) = H2 at *
      refine ⟨false, xN, (fun z => nomatch z), fun _ => ⟨true, xW, fun _ a ha => ?_, fun z => nomatch z⟩⟩
      refine ⟨_, rfl, NW, _, _, _, rfl, rfl, MT.e, .own _, .inl rfl, qw, _, rfl, _, rfl, NW, _, _, _, rfl, rfl, MT.e, .own _, .inl rfl, qb, true, rfl, rfl, .inl rfl, fun n H3 e3 nn hn => ⟨(by show 3 ≤ sizeLine; decide), fun m2 hm2' => ?_⟩⟩
      have hr3 := e3 _ _ hr2
      have n2 : m2 ≠ r := fun z => by rw [z, hr3] at hm2'; cases hm2'
      have nr : n ≠ r := fun z => by rw [z, hr2] at nn; cases nn
      refine ⟨_, rfl, r, _, _, 1, rfl, rfl, same_upd hm2' _ _ hr3, rfl, ?_⟩
      refine ⟨_, rfl, k1 e g r m2 n _ (fun q o hq => ?_) upd_same (by rw [upd_ne n2]; exact upd_same) (by rw [upd_ne nr]; exact same_upd hm2' _ _ hn)⟩
      rw [upd_ne (ne_of_none hq hr00)]
      exact same_upd hm2' _ _ (e3 _ _ ((s1.trans s2) _ _ hq))
    · obtain ⟨hz, kk⟩ := k2 t b ex ey ht hb
      refine ⟨hz, rfl, ?_⟩
      have npr : p ≠ r := fun z => by rw [z, hr1] at np; cases np
      have npm : p ≠ m := fun z => by rw [z, hm1] at np; cases np
      refine ⟨_, rfl, r, _, _, 0, rfl, rfl, by rw [upd_ne (Ne.symm npr)]; exact hr2, rfl, ?_⟩
      refine ⟨_, rfl, kk r m p _ (fun q o hq => ?_) upd_same (by rw [upd_ne nmr, upd_ne (Ne.symm npm)]; exact hm2) ⟨dx, by rw [upd_ne npr]; exact upd_same⟩⟩
      have q1 := s1 _ _ hq
      rw [upd_ne (ne_of_none hq hr00), upd_ne (ne_of_none q1 np)]
      exact s2 _ _ q1
end
end K
namespace K
open PySem L2 Rp
/-- two things that are told of -/
def Pr (C : Addr) (H : Hp) (x y : V) : Prop := ∃ as, (∀ b ∈ as, H b ≠ none) ∧ Th C H 20 300000 as x ∧ Th C H 20 300000 as y
def spRight (C : Addr) : Sp := fun vs H Q _ => ∃ x y : V, vs = [x, y] ∧ Pr C H x y ∧ ∀ H', Same H H' → Q (.bl true) H'
theorem Th.small {C : Addr} {H : Hp} {n L : Nat} {as : List Addr} {i : Int} (h : Th C H n L as (.int i)) : Sz 1600 i := by
  cases h with
  | int z _ => exact z
section
variable {P : Program} {w : World} {K : PySem.W.Frag} {mg : Str → Option Value} {base : Heap}
theorem pair_says {X : Cx} {H H' : Hp} {as : List Addr} {x y : V} {tx ty : Str} {p : Addr} (c : Ctx X P w K mg base) (h1 : Tells P w K mg base 20 300000 as H x tx) (h2 : Tells P w K mg base 20 300000 as H y ty) (e : Same H H') (hb : ∀ b ∈ as, H b ≠ none) (hp : H' p = none) :
    Says X 22 (p :: as) (upd H' p (.tup [x, y])) (.ref p) (tupleText [tx, ty]) := by
  have e2 : ∀ b ∈ as, ∀ o, H b = some o → (upd H' p (.tup [x, y])) b = some o := fun b _ o ho => same_upd hp _ _ (e _ _ ho)
  refine says_tup (n := 20) (ts := [tx, ty]) (SqT.of upd_same) (fun z => ?_) rfl fun i v hv => ?_
  · have := hb p z
    exact this (Fw.same (d := p) e p hp)
  · match i, hv with
    | 0, hv => cases hv; exact ⟨tx, rfl, h1.2 X c _ e2⟩
    | 1, hv => cases hv; exact ⟨ty, rfl, h2.2 X c _ e2⟩
    | i + 2, hv => cases hv
theorem scRight : FnScope ["_law_top", "_law_bottom", "_law_kept", "_law_told", "_law_marks"] ["_law_top", "_law_bottom"] (defScope sRight) := ⟨rfl, rfl, rfl, by decide +kernel, rfl, by decide +kernel, by decide +kernel⟩
theorem ok_right {f C fW fHe fLW fIs fR : Addr} {fd dHe dLW dIs fdR : FuncData} (F : Fun K "_law_right" "_law_right" sRight f fd) (T : WTxt K mg C fW) (N : WIns K C) (ki : PySem.W.kitOne K (.ref C) (.type "int") = some false) (kb : PySem.W.kitOne K (.ref C) (.type "bool") = some false)
    (aR : PySem.W.findIn K (.ref C) "__repr__" = some (some (.ref fR))) (iR : PySem.W.isFn K (.ref fR) = true) (bR : Binds K fdR ["self"] []) (GR : FnOk P w K mg base CX0 2 fR fdR ["self"] (spRepr C)) (hrp : mg "repr" = none)
    (cHe : Cl K mg "_law_heard" fHe dHe ["_law_top", "_law_bottom"]) (GHe : FnOk P w K mg base CX0 4 fHe dHe ["_law_top", "_law_bottom"] (spHeard K C))
    (cLW : Cl K mg "_law_whole" fLW dLW ["_law_thing"]) (GLW : FnOk P w K mg base CX0 1 fLW dLW ["_law_thing"] (spWholeV K))
    (cIs : Cl K mg "_law_is" fIs dIs ["_law_found", "_law_top", "_law_bottom"]) (GIs : FnOk P w K mg base CX0 3 fIs dIs ["_law_found", "_law_top", "_law_bottom"] (spIs C)) : FnG P w K mg base CX0 23 f fd ["_law_top", "_law_bottom"] (spRight C) := by
  refine Fun_okG0 F scRight (fun vs H Q E h => ?_) (fun cdv A outer s H vs Q E gd hr h => ?_)
  · obtain ⟨x, y, rfl, _⟩ := h
    rfl
  · obtain ⟨x, y, rfl, ⟨as, ab, tx, ty⟩, k⟩ := h
    obtain ⟨sx, hx⟩ := tx.tells aR iR bR GR
    obtain ⟨sy, hy⟩ := ty.tells aR iR bR GR
    have wx : ∀ H', Same H H' → Wh K H' x := fun H' e => (tx.congr fun b _ o h => e b o h).wh T.cl N ki kb
    have wy : ∀ H', Same H H' → Wh K H' y := fun H' e => (ty.congr fun b _ o h => e b o h).wh T.cl N ki kb
    have len : (tupleText [sx, sy]).length ≤ sizeLine := Nat.le_trans (tupleText_le (B := 300000) fun t ht => by
      rcases List.mem_cons.mp ht with rfl | ht
      · exact hx.1
      · cases List.mem_singleton.mp ht; exact hy.1) (by show 2 * 300002 + 3 ≤ sizeLine; decide)
    refine ⟨_, (pss_cons (ps_set (i := 2) scRight.nd rfl (Or.inl rfl) (pe_callB (cr_repr (n := 22) (hr.mono (by decide)) gd) (by rfl) hrp (by decide +kernel) (pa_cons (pe_tup (pa_cons (pv 0) (pa_cons (pv 1) pa_nil))) pa_nil)))
    (pss_cons (ps_asg (pe_call GHe (hr.mono (by decide)) (by rfl) cHe.g cHe.k cHe.b .nil pass0 (pa_cons (pv 0) (pa_cons (pv 1) pa_nil))) (pg_unl rfl (pgs_cons (pg_name (i := 3) scRight.nd rfl (Or.inl rfl)) (pgs_cons (pg_name (i := 4) scRight.nd rfl (Or.inl rfl)) pgs_nil))))
    (pss_cons (ps_if (pt_cmpR op_ne (pe_callB (cr_repr (n := 22) (hr.mono (by decide)) gd) (by rfl) hrp (by decide +kernel) (pa_cons (pe_tup (pa_cons (pv 0) (pa_cons (pv 1) pa_nil))) pa_nil)) (pv 2) (nomark _)) (pss_one (ps_ret pe_bl)) pss_nil)
    (pss_cons (ps_if (PW.pt (pw_and (pt_val (pe_call GLW (hr.mono (by decide)) (by rfl) cLW.g cLW.k cLW.b .nil pass0 (pa_cons (pv 1) pa_nil))) (pw_and1 (pt_cmpR op_eq (pv 1) pe_int (nomark _))))) (pss_one (ps_ret (pe_and (pe_cmpR (op_eqD hr.units) (pv 4) (pe_lst (pa_cons pe_str (pa_cons pe_bl (pa_cons pe_bl pa_nil)))) (nomark _)) (pe_one (pe_cmp (pc_isN (pv 3))))))) pss_nil)
    (pss_cons (ps_if (PW.pt (pw_or (pt_not (pt_val (pe_call GLW (hr.mono (by decide)) (by rfl) cLW.g cLW.k cLW.b .nil pass0 (pa_cons (pv 0) pa_nil)))) (pw_or (pt_not (pt_val (pe_call GLW (hr.mono (by decide)) (by rfl) cLW.g cLW.k cLW.b .nil pass0 (pa_cons (pv 1) pa_nil)))) (pw_or (pt_cmpR op_lt (pv 0) pe_int (nomark _)) (pw_or1 (pt_cmpR op_lt (pv 1) pe_int (nomark _))))))) (pss_one (ps_ret (pe_and (pe_cmpR (op_eqD hr.units) (pv 4) (pe_lst (pa_cons pe_str (pa_cons pe_bl (pa_cons (pe_lst (pa_cons pe_bl (pa_cons pe_bl (pa_cons pe_bl (pa_cons pe_int pa_nil))))) pa_nil)))) (nomark _)) (pe_one (pe_cmp (pc_isN (pv 3))))))) pss_nil)
    (pss_one (ps_ret (pe_and (pe_cmpR (op_eqD hr.units) (pv 4) (pe_lst pa_nil) (nomark _)) (pe_one (pe_call GIs (hr.mono (by decide)) (by rfl) cIs.g cIs.k cIs.b .nil pass0 (pa_cons (pv 3) (pa_cons (pv 0) (pa_cons (pv 1) pa_nil))))))))))))), ?_⟩
    refine ⟨_, rfl, _, rfl, (by show 2 ≤ sizeLine; decide), fun p0 h0 => ⟨.ref p0, _, _, rfl, pair_says ⟨rfl, rfl, rfl, rfl, rfl⟩ hx hy (Same.refl H) ab h0, len, fun H1 e1 => ?_⟩⟩
    have s1 : Same H H1 := (same_upd h0).trans e1
    clear e1 h0
    refine ⟨_, rfl, _, rfl, x, y, rfl, fun H' e => wx H' (s1.trans e), fun H' e => wy H' (s1.trans e), fun ey => ?_, fun ny ng => ?_, fun t b ex ey ht hb => ?_⟩
    · intro r m H2 e2 hr2 hm2
      subst ey
      have s2 := s1.trans e2
      refine ⟨r, _, rfl, SqL.of hr2, rfl, _, _, rfl, _, _, rfl, rfl, ?_⟩
      refine ⟨_, rfl, _, rfl, (by show 2 ≤ sizeLine; decide), fun p1 h1 => ⟨.ref p1, _, _, rfl, pair_says ⟨rfl, rfl, rfl, rfl, rfl⟩ hx hy s2 ab h1, len, fun H3 e3 => ?_⟩⟩
      have s3 := (same_upd h1).trans e3
      refine ⟨_, rfl, rfl, _, rfl, ?_⟩
      rw [decide_eq_true rfl]
      refine iteF ⟨_, rfl, .int 0, rfl, wy _ (s2.trans s3), _, rfl, iteT ⟨_, rfl, rfl, _, rfl, ?_⟩⟩
      rw [decide_eq_true rfl]
      refine iteT ⟨_, rfl, (by show 3 ≤ sizeLine; decide), fun q hq => ?_⟩
      have s4 := same_upd (o := .lst [.str "whole", .bl true, .bl false]) hq
      refine ⟨.list [.str "whole", .bool true, .bool false], .list [.str "whole", .bool true, .bool false], .lst (SqL.of (s4 _ _ (s3 _ _ hm2))) (.cons (.str _) (.cons (.bl _) (.cons (.bl _) .nil))), .lst (SqL.of upd_same) (.cons (.str _) (.cons (.bl _) (.cons (.bl _) .nil))), by decide +kernel, by decide +kernel, ?_⟩
      rw [SeqAt.eqv_refl]
      · refine ⟨true, rfl, iteT ⟨_, rfl, ?_⟩⟩
        show Q (.bl (decide (V.non = V.non))) _
        rw [decide_eq_true rfl]
        exact k _ ((s2.trans s3).trans s4)
      · decide +kernel
    · intro r m n H2 e2 hr2 hm2 hn2
      have s2 := s1.trans e2
      refine ⟨r, _, rfl, SqL.of hr2, rfl, _, _, rfl, _, _, rfl, rfl, ?_⟩
      refine ⟨_, rfl, _, rfl, (by show 2 ≤ sizeLine; decide), fun p1 h1 => ⟨.ref p1, _, _, rfl, pair_says ⟨rfl, rfl, rfl, rfl, rfl⟩ hx hy s2 ab h1, len, fun H3 e3 => ?_⟩⟩
      have s3 := (same_upd h1).trans e3
      refine ⟨_, rfl, rfl, _, rfl, ?_⟩
      rw [decide_eq_true rfl]
      -- behind the first test
      have fin : ∀ H4 : Hp, Same H3 H4 → ∀ q, H4 q = none → ∀ q2, (upd H4 q (.lst [.bl true, .bl true, .bl true, .int 1])) q2 = none →
          ∃ d e, Dp K (upd (upd H4 q (.lst [.bl true, .bl true, .bl true, .int 1])) q2 (.lst [.str "weight", .bl true, .ref q])) (.ref m) d ∧ Dp K (upd (upd H4 q (.lst [.bl true, .bl true, .bl true, .int 1])) q2 (.lst [.str "weight", .bl true, .ref q])) (.ref q2) e ∧ SeqAt.shaped d = true ∧ SeqAt.shaped e = true ∧ PyData.eqv d e = true := fun H4 e4 q hq q2 hq2 => by
        have s4 := (same_upd (o := .lst [.bl true, .bl true, .bl true, .int 1]) hq).trans (same_upd (o := .lst [.str "weight", .bl true, .ref q]) hq2)
        have dm : ∀ {a : Addr}, (upd (upd H4 q (.lst [.bl true, .bl true, .bl true, .int 1])) q2 (.lst [.str "weight", .bl true, .ref q])) a = some (.lst [.bl true, .bl true, .bl true, .int 1]) → Dp K (upd (upd H4 q (.lst [.bl true, .bl true, .bl true, .int 1])) q2 (.lst [.str "weight", .bl true, .ref q])) (.ref a) (.list [.bool true, .bool true, .bool true, .int 1]) :=
          fun h => .lst (SqL.of h) (.cons (.bl _) (.cons (.bl _) (.cons (.bl _) (.cons (.int _) .nil))))
        refine ⟨.list [.str "weight", .bool true, .list [.bool true, .bool true, .bool true, .int 1]], .list [.str "weight", .bool true, .list [.bool true, .bool true, .bool true, .int 1]],
          .lst (SqL.of (s4 _ _ (e4 _ _ (s3 _ _ hm2)))) (.cons (.str _) (.cons (.bl _) (.cons (dm (s4 _ _ (e4 _ _ (s3 _ _ hn2)))) .nil))), .lst (SqL.of upd_same) (.cons (.str _) (.cons (.bl _) (.cons (dm (same_upd hq2 _ _ upd_same)) .nil))), by decide +kernel, by decide +kernel, SeqAt.eqv_refl _ (by decide +kernel)⟩
      have last : ∀ H4 : Hp, Same H3 H4 → ∀ q, H4 q = none → ∀ q2, (upd H4 q (.lst [.bl true, .bl true, .bl true, .int 1])) q2 = none → Q (.bl true) (upd (upd H4 q (.lst [.bl true, .bl true, .bl true, .int 1])) q2 (.lst [.str "weight", .bl true, .ref q])) := fun H4 e4 q hq q2 hq2 =>
        k _ (((s2.trans s3).trans e4).trans ((same_upd hq).trans (same_upd hq2)))
      refine iteF ⟨_, rfl, y, rfl, wy _ (s2.trans s3), _, rfl, ?_⟩
      have tail : ∀ {σ : L2.St}, σ[4]? = some (some (.ref m)) → σ[3]? = some (some V.non) →
          (tAndV (tOp (rEqD K) (tVar 4) (tLst (tCons (tC (.str "weight")) (tCons (tC (.bl true)) (tCons (tLst (tCons (tC (.bl true)) (tCons (tC (.bl true)) (tCons (tC (.bl true)) (tCons (tC (.int 1)) tNil))))) tNil))))) (tIsN (tVar 3))) σ H3 Q := fun g4 g3 => by
        refine ⟨_, g4, (by show 4 ≤ sizeLine; decide), fun q hq => ⟨(by show 3 ≤ sizeLine; decide), fun q2 hq2 => ?_⟩⟩
        obtain ⟨d, e, h1, h2, h3, h4, h5⟩ := fin H3 (Same.refl _) q hq q2 hq2
        refine ⟨d, e, h1, h2, h3, h4, ?_⟩
        rw [h5]
        refine ⟨true, rfl, iteT ⟨_, g3, ?_⟩⟩
        show Q (.bl (decide (V.non = V.non))) _
        rw [decide_eq_true rfl]
        exact last H3 (Same.refl _) q hq q2 hq2
      by_cases iy : isW y = true
      · obtain ⟨b, rfl⟩ := isW_int iy
        have nb : b ≠ 0 := fun z => ny (by rw [z])
        refine iteT ⟨_, rfl, rfl, _, rfl, ?_⟩
        rw [decide_eq_false (fun z => nb (by injection z))]
        refine iteF ⟨_, rfl, x, rfl, wx _ (s2.trans s3), _, rfl, ?_⟩
        by_cases ix : isW x = true
        · obtain ⟨t, rfl⟩ := isW_int ix
          refine iteF ⟨_, rfl, .int b, rfl, wy _ (s2.trans s3), _, rfl, iteF ⟨_, rfl, _, _, rfl, rfl, _, rfl, ?_⟩⟩
          by_cases ht : t < 0
          · rw [decide_eq_true ht]
            exact iteT (iteT (tail rfl rfl))
          · rw [decide_eq_false ht]
            refine iteF ⟨_, rfl, _, _, rfl, rfl, _, rfl, ?_⟩
            by_cases hb : b < 0
            · rw [decide_eq_true hb]
              exact iteT (tail rfl rfl)
            · exact (ng ⟨t, b, rfl, rfl, by omega, by omega⟩).elim
        · have ix' : isW x = false := by simpa using ix
          rw [ix']
          exact iteT (iteT (tail rfl rfl))
      · have iy' : isW y = false := by simpa using iy
        rw [iy']
        refine iteF (iteF ⟨_, rfl, x, rfl, wx _ (s2.trans s3), _, rfl, ?_⟩)
        by_cases ix : isW x = true
        · rw [ix]
          refine iteF ⟨_, rfl, y, rfl, wy _ (s2.trans s3), _, rfl, ?_⟩
          rw [iy']
          exact iteT (iteT (tail rfl rfl))
        · have ix' : isW x = false := by simpa using ix
          rw [ix']
          exact iteT (iteT (tail rfl rfl))
    · subst ex ey
      have zb : Sz 8000 b := (Th.small ty).mono (by decide)
      refine ⟨zb, fun r m p H2 e2 hr2 hm2 hp2 => ?_⟩
      have s2 := s1.trans e2
      refine ⟨r, _, rfl, SqL.of hr2, rfl, _, _, rfl, _, _, rfl, rfl, ?_⟩
      refine ⟨_, rfl, _, rfl, (by show 2 ≤ sizeLine; decide), fun p1 h1 => ⟨.ref p1, _, _, rfl, pair_says ⟨rfl, rfl, rfl, rfl, rfl⟩ hx hy s2 ab h1, len, fun H3 e3 => ?_⟩⟩
      have s3 := (same_upd h1).trans e3
      refine ⟨_, rfl, rfl, _, rfl, ?_⟩
      rw [decide_eq_true rfl]
      have nb : ¬ V.int b = V.int 0 := fun z => by injection z with z; omega
      refine iteF ⟨_, rfl, .int b, rfl, wh_int, _, rfl, iteT ⟨_, rfl, rfl, _, rfl, ?_⟩⟩
      rw [decide_eq_false nb]
      refine iteF ⟨_, rfl, .int t, rfl, wh_int, _, rfl, iteF ⟨_, rfl, .int b, rfl, wh_int, _, rfl, iteF ⟨_, rfl, _, _, rfl, rfl, _, rfl, ?_⟩⟩⟩
      rw [decide_eq_false (show ¬ t < 0 by omega)]
      refine iteF ⟨_, rfl, _, _, rfl, rfl, _, rfl, ?_⟩
      rw [decide_eq_false (show ¬ b < 0 by omega)]
      refine iteF ⟨_, rfl, (by show 0 ≤ sizeLine; decide), fun q hq => ?_⟩
      have s4 := same_upd (o := .lst []) hq
      refine ⟨.list [], .list [], .lst (SqL.of (s4 _ _ (s3 _ _ hm2))) .nil, .lst (SqL.of upd_same) .nil, rfl, rfl, ?_⟩
      rw [SeqAt.eqv_refl]
      · refine ⟨true, rfl, iteT ⟨_, rfl, _, rfl, _, rfl, p, t, b, rfl, ht, hb, zb, (hp2.same s3).same s4, fun H5 e5 => ?_⟩⟩
        exact k _ (((s2.trans s3).trans s4).trans e5)
      · rfl
end
end K
namespace K
open PySem L2 Rp
/-- pairs of things -/
def PrsO (C d : Addr) (H : Hp) (xs : List V) : Prop := ∀ v ∈ xs, ∃ (a : Addr) (x y : V), v = .ref a ∧ a ≠ d ∧ H a = some (.tup [x, y]) ∧ Od C d 20 300000 H x ∧ Od C d 20 300000 H y
/-- pairs of things that are no objects -/
def PrsA (C d : Addr) (H : Hp) (xs : List V) : Prop := ∀ v ∈ xs, ∃ (a : Addr) (x y : V), v = .ref a ∧ a ≠ d ∧ H a = some (.tup [x, y]) ∧ (∀ H, Od C d 20 300000 H x) ∧ (∀ H, Od C d 20 300000 H y)
section
variable {C d : Addr} {H H' : Hp} {xs ys : List V} {a : Addr} {x y : V}
theorem PrsO.fw (h : PrsO C d H xs) (f : Fw d H H') : PrsO C d H' xs := fun v hv => let ⟨a, x, y, h1, h2, h3, h4, h5⟩ := h v hv; ⟨a, x, y, h1, h2, f.kp a _ h2 h3, h4.fw f, h5.fw f⟩
theorem PrsO.add (h : PrsO C d H xs) (ha : H a = none) (nd : a ≠ d) (ox : Od C d 20 300000 H x) (oy : Od C d 20 300000 H y) : PrsO C d (upd H a (.tup [x, y])) (xs ++ [.ref a]) := fun v hv => by
  have f := Fw.upd (d := d) (o := .tup [x, y]) ha
  rcases List.mem_append.mp hv with z | z
  · exact h.fw f v z
  · exact ⟨a, x, y, List.mem_singleton.mp z, nd, upd_same, ox.fw f, oy.fw f⟩
theorem PrsO.cat (h : PrsO C d H xs) (h2 : PrsO C d H ys) : PrsO C d H (xs ++ ys) := fun v hv => (List.mem_append.mp hv).elim (h v) (h2 v)
theorem PrsA.fw (h : PrsA C d H xs) (f : Fw d H H') : PrsA C d H' xs := fun v hv => let ⟨a, x, y, h1, h2, h3, h4, h5⟩ := h v hv; ⟨a, x, y, h1, h2, f.kp a _ h2 h3, h4, h5⟩
theorem PrsA.add (h : PrsA C d H xs) (ha : H a = none) (nd : a ≠ d) (ox : ∀ H, Od C d 20 300000 H x) (oy : ∀ H, Od C d 20 300000 H y) : PrsA C d (upd H a (.tup [x, y])) (xs ++ [.ref a]) := fun v hv => by
  have f := Fw.upd (d := d) (o := .tup [x, y]) ha
  rcases List.mem_append.mp hv with z | z
  · exact h.fw f v z
  · exact ⟨a, x, y, List.mem_singleton.mp z, nd, upd_same, ox, oy⟩
theorem PrsA.cat (h : PrsA C d H xs) (h2 : PrsA C d H ys) : PrsA C d H (xs ++ ys) := fun v hv => (List.mem_append.mp hv).elim (h v) (h2 v)
theorem PrsA.write {l : Addr} {zs us : List V} (h : PrsA C d H xs) (hl : H l = some (.lst zs)) : PrsA C d (upd H l (.lst us)) xs := fun v hv => by
  obtain ⟨a, x, y, h1, h2, h3, h4, h5⟩ := h v hv
  refine ⟨a, x, y, h1, h2, ?_, h4, h5⟩
  rw [upd_ne (fun z => by rw [z, hl] at h3; cases h3)]
  exact h3
theorem PrsA.o (h : PrsA C d H xs) : PrsO C d H xs := fun v hv => let ⟨a, x, y, h1, h2, h3, h4, h5⟩ := h v hv; ⟨a, x, y, h1, h2, h3, h4 _, h5 _⟩
end
theorem Fw.at {d l : Addr} {H H' : Hp} {o : HO} (f : Fw d H H') (h0 : H l = none) : Fw d H (L2.upd H' l o) := ⟨fun q u n h => by
  rw [upd_ne (ne_of_none h h0)]
  exact f.kp q u n h, fun q h => by
  by_cases z : q = l
  · rw [z, upd_same] at h
    cases h
  · rw [upd_ne z] at h
    exact f.nn q h⟩
def spPairs (C : Addr) : Sp := fun vs H Q _ => ∃ d : Addr, vs = [.ref d] ∧ DeckAt H d ∧ ∀ (l : Addr) (xs : List V) (H' : Hp), DeckAt H' d → Fw d H H' → H' l = some (.lst xs) → PrsO C d H' xs → Q (.ref l) H'
section
variable {P : Program} {w : World} {K : PySem.W.Frag} {mg : Str → Option Value} {base : Heap}
theorem scPairs : FnScope ["_law_deck_here", "_law_some", "_law_k", "_law_top", "_law_bottom", "_law_by"] ["_law_deck_here"] (defScope sPairs) := ⟨rfl, rfl, rfl, by decide +kernel, rfl, by decide +kernel, by decide +kernel⟩
theorem ok_pairs {f C fD fT fO : Addr} {fd fdD fdT fdO : FuncData} (F : Fun K "_law_pairs" "_law_pairs" sPairs f fd) (hrg : mg "range" = none)
    (cD : Cl K mg "_law_draw" fD fdD ["_law_deck_here", "_law_most"]) (GD : FnOk P w K mg base CX0 1 fD fdD ["_law_deck_here", "_law_most"] spDraw) (cT : Cl K mg "_law_two" fT fdT ["_law_deck_here"]) (GT : FnOk P w K mg base CX0 2 fT fdT ["_law_deck_here"] spTwo)
    (cO : Cl K mg "_law_odd" fO fdO ["_law_deck_here"]) (GO : FnOk P w K mg base CX0 4 fO fdO ["_law_deck_here"] (spOdd C)) : FnOk P w K mg base CX0 5 f fd ["_law_deck_here"] (spPairs C) := by
  refine F.ok scPairs (fun vs H Q E h => ?_) (fun cdv A outer s S0 vs Q E hr h => ?_)
  · obtain ⟨d, rfl, _⟩ := h
    rfl
  · obtain ⟨d, rfl, hd, k⟩ := h
    refine ⟨_, (pss_cons (ps_set (i := 1) scPairs.nd rfl (Or.inl rfl) (pe_lst (pa_cons (pe_tup (pa_cons pe_int (pa_cons pe_int pa_nil))) (pa_cons (pe_tup (pa_cons pe_int (pa_cons pe_int pa_nil))) (pa_cons (pe_tup (pa_cons (pe_un un_neg pe_int) (pa_cons pe_int pa_nil))) (pa_cons (pe_tup (pa_cons pe_non (pa_cons pe_int pa_nil))) (pa_cons (pe_tup (pa_cons pe_bl (pa_cons pe_int pa_nil))) (pa_cons (pe_tup (pa_cons pe_int (pa_cons pe_bl pa_nil))) (pa_cons (pe_tup (pa_cons pe_int (pa_cons pe_bl pa_nil))) (pa_cons (pe_tup (pa_cons pe_bl (pa_cons pe_int pa_nil))) (pa_cons (pe_tup (pa_cons (pe_un un_neg pe_int) (pa_cons pe_int pa_nil))) (pa_cons (pe_tup (pa_cons pe_int (pa_cons (pe_un un_neg pe_int) pa_nil))) pa_nil))))))))))))
    (pss_cons (ps_set (i := 1) scPairs.nd rfl (Or.inl rfl) (pe_op op_cat (pv 1) (pe_lst (pa_cons (pe_tup (pa_cons (pe_un un_neg pe_int) (pa_cons (pe_un un_neg pe_int) pa_nil))) (pa_cons (pe_tup (pa_cons (pe_op op_pow pe_int pe_int) (pa_cons (pe_op op_sub (pe_op op_pow pe_int pe_int) pe_int) pa_nil))) (pa_cons (pe_tup (pa_cons (pe_op op_pow pe_int pe_int) (pa_cons (pe_op op_mul pe_int (pe_op op_pow pe_int pe_int)) pa_nil))) (pa_cons (pe_tup (pa_cons pe_int (pa_cons (pe_op op_pow pe_int pe_int) pa_nil))) (pa_cons (pe_tup (pa_cons pe_str (pa_cons pe_int pa_nil))) (pa_cons (pe_tup (pa_cons pe_int (pa_cons pe_str pa_nil))) pa_nil)))))))))
    (pss_cons (ps_expr (pe_bm PySem.F.plainAttrs_list PySem.F.slot_list_append PySem.F.type_list_append mt_append (pv 1) (pa_cons (pe_tup (pa_cons pe_int (pa_cons (pe_tup (pa_cons pe_int pa_nil)) pa_nil))) pa_nil)))
    (pss_cons (ps_for PassesOwn.never rfl (pi_range1 (by rfl) hrg (pa_cons pe_int pa_nil)) (pg_name (i := 2) scPairs.nd rfl (Or.inl rfl))
      (pss_cons (ps_asg (pe_call GT (hr.mono (by decide)) (by rfl) cT.g cT.k cT.b .nil pass0 (pa_cons (pv 0) pa_nil)) (pg_tup rfl (pgs_cons (pg_name (i := 3) scPairs.nd rfl (Or.inl rfl)) (pgs_cons (pg_name (i := 4) scPairs.nd rfl (Or.inl rfl)) pgs_nil))))
    (pss_cons (ps_set (i := 5) scPairs.nd rfl (Or.inl rfl) (pe_op op_add pe_int (pe_call GD (hr.mono (by decide)) (by rfl) cD.g cD.k cD.b .nil pass0 (pa_cons (pv 0) (pa_cons pe_int pa_nil)))))
    (pss_cons (ps_set (i := 1) scPairs.nd rfl (Or.inl rfl) (pe_op op_cat (pv 1) (pe_lst (pa_cons (pe_tup (pa_cons (pv 3) (pa_cons (pv 4) pa_nil))) (pa_cons (pe_tup (pa_cons (pe_op op_mulW (pv 3) (pv 5)) (pa_cons (pe_op op_mulW (pv 4) (pv 5)) pa_nil))) (pa_cons (pe_tup (pa_cons (pe_op op_sub pe_int (pv 3)) (pa_cons (pv 4) pa_nil))) (pa_cons (pe_tup (pa_cons (pv 3) (pa_cons (pe_op op_sub pe_int (pv 4)) pa_nil))) (pa_cons (pe_tup (pa_cons (pv 3) (pa_cons pe_int pa_nil))) pa_nil))))))))
    (pss_one (ps_set (i := 1) scPairs.nd rfl (Or.inl rfl) (pe_op op_cat (pv 1) (pe_lst (pa_cons (pe_tup (pa_cons (pe_call GO (hr.mono (by decide)) (by rfl) cO.g cO.k cO.b .nil pass0 (pa_cons (pv 0) pa_nil)) (pa_cons (pv 4) pa_nil))) (pa_cons (pe_tup (pa_cons (pv 3) (pa_cons (pe_call GO (hr.mono (by decide)) (by rfl) cO.g cO.k cO.b .nil pass0 (pa_cons (pv 0) pa_nil)) pa_nil))) (pa_cons (pe_tup (pa_cons (pe_call GO (hr.mono (by decide)) (by rfl) cO.g cO.k cO.b .nil pass0 (pa_cons (pv 0) pa_nil)) (pa_cons (pe_call GO (hr.mono (by decide)) (by rfl) cO.g cO.k cO.b .nil pass0 (pa_cons (pv 0) pa_nil)) pa_nil))) pa_nil)))))))))))
    (pss_one (ps_ret (pv 1))))))), ?_⟩
    have up : ∀ {H p o}, H p = none → Fw d H (upd H p o) := fun h => Fw.upd h
    have p39 : CPow (10 : Int) (39 : Int) := (by show (0:Int) ≤ 39 ∧ (39:Int) ≤ 1000000 ∧ (10:Int).natAbs < 2 ^ 64; decide)
    have p38 : CPow (10 : Int) (38 : Int) := (by show (0:Int) ≤ 38 ∧ (38:Int) ≤ 1000000 ∧ (10:Int).natAbs < 2 ^ 64; decide)
    have c2 : CMul (2 : Int) ((10 : Int) ^ (38 : Int).toNat) := .inl (by decide)
    have oi : ∀ {i : Int}, Sz 1600 i → ∀ H, Od C d 20 300000 H (.int i) := fun z _ => od_int z (by decide)
    have ob : ∀ {b : Bool}, ∀ H, Od C d 20 300000 H (.bl b) := fun _ => od_bl (by decide)
    have os : ∀ {x : Str}, (reprText x).length ≤ 100 → ∀ H, Od C d 20 300000 H (.str x) := fun z _ => od_str (Nat.le_trans z (by decide)) (Nat.le_trans z (by decide))
    have on : ∀ H, Od C d 20 300000 H .non := fun _ => od_non (by decide)
    have P0 : PrsA C d S0 [] := fun _ z => nomatch z
    have D0 := hd
    have F0 := Fw.refl d S0
    refine ⟨(by show 2 ≤ sizeLine; decide), fun a1 h1 => ?_⟩
    have P1 := P0.add (x := .int 0) (y := .int 0) h1 (D0.ne h1) (oi (by unfold Sz; decide +kernel)) (oi (by unfold Sz; decide +kernel))
    have D1 := D0.upd (o := .tup [.int 0, .int 0]) h1
    have F1 := F0.trans (up (o := .tup [.int 0, .int 0]) h1)
    generalize upd S0 a1 (.tup [.int 0, .int 0]) = S1 at *
    clear P0 D0 F0 h1
    refine ⟨(by show 2 ≤ sizeLine; decide), fun a2 h2 => ?_⟩
    have P2 := P1.add (x := .int 1) (y := .int 0) h2 (D1.ne h2) (oi (by unfold Sz; decide +kernel)) (oi (by unfold Sz; decide +kernel))
    have D2 := D1.upd (o := .tup [.int 1, .int 0]) h2
    have F2 := F1.trans (up (o := .tup [.int 1, .int 0]) h2)
    generalize upd S1 a2 (.tup [.int 1, .int 0]) = S2 at *
    clear P1 D1 F1 h2
    refine ⟨_, rfl, (by show 2 ≤ sizeLine; decide), fun a3 h3 => ?_⟩
    have P3 := P2.add (x := .int (-1)) (y := .int 0) h3 (D2.ne h3) (oi (by unfold Sz; decide +kernel)) (oi (by unfold Sz; decide +kernel))
    have D3 := D2.upd (o := .tup [.int (-1), .int 0]) h3
    have F3 := F2.trans (up (o := .tup [.int (-1), .int 0]) h3)
    generalize upd S2 a3 (.tup [.int (-1), .int 0]) = S3 at *
    clear P2 D2 F2 h3
    refine ⟨(by show 2 ≤ sizeLine; decide), fun a4 h4 => ?_⟩
    have P4 := P3.add (x := .non) (y := .int 0) h4 (D3.ne h4) on (oi (by unfold Sz; decide +kernel))
    have D4 := D3.upd (o := .tup [.non, .int 0]) h4
    have F4 := F3.trans (up (o := .tup [.non, .int 0]) h4)
    generalize upd S3 a4 (.tup [.non, .int 0]) = S4 at *
    clear P3 D3 F3 h4
    refine ⟨(by show 2 ≤ sizeLine; decide), fun a5 h5 => ?_⟩
    have P5 := P4.add (x := .bl true) (y := .int 1) h5 (D4.ne h5) ob (oi (by unfold Sz; decide +kernel))
    have D5 := D4.upd (o := .tup [.bl true, .int 1]) h5
    have F5 := F4.trans (up (o := .tup [.bl true, .int 1]) h5)
    generalize upd S4 a5 (.tup [.bl true, .int 1]) = S5 at *
    clear P4 D4 F4 h5
    refine ⟨(by show 2 ≤ sizeLine; decide), fun a6 h6 => ?_⟩
    have P6 := P5.add (x := .int 1) (y := .bl true) h6 (D5.ne h6) (oi (by unfold Sz; decide +kernel)) ob
    have D6 := D5.upd (o := .tup [.int 1, .bl true]) h6
    have F6 := F5.trans (up (o := .tup [.int 1, .bl true]) h6)
    generalize upd S5 a6 (.tup [.int 1, .bl true]) = S6 at *
    clear P5 D5 F5 h6
    refine ⟨(by show 2 ≤ sizeLine; decide), fun a7 h7 => ?_⟩
    have P7 := P6.add (x := .int 1) (y := .bl false) h7 (D6.ne h7) (oi (by unfold Sz; decide +kernel)) ob
    have D7 := D6.upd (o := .tup [.int 1, .bl false]) h7
    have F7 := F6.trans (up (o := .tup [.int 1, .bl false]) h7)
    generalize upd S6 a7 (.tup [.int 1, .bl false]) = S7 at *
    clear P6 D6 F6 h7
    refine ⟨(by show 2 ≤ sizeLine; decide), fun a8 h8 => ?_⟩
    have P8 := P7.add (x := .bl false) (y := .int 0) h8 (D7.ne h8) ob (oi (by unfold Sz; decide +kernel))
    have D8 := D7.upd (o := .tup [.bl false, .int 0]) h8
    have F8 := F7.trans (up (o := .tup [.bl false, .int 0]) h8)
    generalize upd S7 a8 (.tup [.bl false, .int 0]) = S8 at *
    clear P7 D7 F7 h8
    refine ⟨_, rfl, (by show 2 ≤ sizeLine; decide), fun a9 h9 => ?_⟩
    have P9 := P8.add (x := .int (-1)) (y := .int 1) h9 (D8.ne h9) (oi (by unfold Sz; decide +kernel)) (oi (by unfold Sz; decide +kernel))
    have D9 := D8.upd (o := .tup [.int (-1), .int 1]) h9
    have F9 := F8.trans (up (o := .tup [.int (-1), .int 1]) h9)
    generalize upd S8 a9 (.tup [.int (-1), .int 1]) = S9 at *
    clear P8 D8 F8 h9
    refine ⟨_, rfl, (by show 2 ≤ sizeLine; decide), fun a10 h10 => ?_⟩
    have P10 := P9.add (x := .int 1) (y := .int (-1)) h10 (D9.ne h10) (oi (by unfold Sz; decide +kernel)) (oi (by unfold Sz; decide +kernel))
    have D10 := D9.upd (o := .tup [.int 1, .int (-1)]) h10
    have F10 := F9.trans (up (o := .tup [.int 1, .int (-1)]) h10)
    generalize upd S9 a10 (.tup [.int 1, .int (-1)]) = S10 at *
    clear P9 D9 F9 h10
    have Q1 : PrsA C d S10 [V.ref a1, .ref a2, .ref a3, .ref a4, .ref a5, .ref a6, .ref a7, .ref a8, .ref a9, .ref a10] := P10
    refine ⟨(by show 10 ≤ sizeLine; decide), fun l1 hl1 => ?_⟩
    generalize hxs1 : [V.ref a1, .ref a2, .ref a3, .ref a4, .ref a5, .ref a6, .ref a7, .ref a8, .ref a9, .ref a10] = xs1 at *
    have len1 : xs1.length = 10 := by rw [← hxs1]; rfl
    have R1 := Q1.fw (up (o := .lst xs1) hl1)
    have nl1 := D10.ne hl1
    have E1 := D10.upd (o := .lst xs1) hl1
    have G1 := F10.trans (up (o := .lst xs1) hl1)
    have hlA : (upd S10 l1 (.lst xs1)) l1 = some (.lst xs1) := upd_same
    clear P10 Q1 D10 F10 hl1
    generalize upd S10 l1 (.lst xs1) = S11 at *
    have P11 : PrsA C d S11 [] := fun _ z => nomatch z
    have D11 := E1
    have F11 := Fw.refl d S11
    refine ⟨_, rfl, _, rfl, _, rfl, (by show 2 ≤ sizeLine; decide), fun a12 h12 => ?_⟩
    have P12 := P11.add (x := .int (-2)) (y := .int (-4)) h12 (D11.ne h12) (oi (by unfold Sz; decide +kernel)) (oi (by unfold Sz; decide +kernel))
    have D12 := D11.upd (o := .tup [.int (-2), .int (-4)]) h12
    have F12 := F11.trans (up (o := .tup [.int (-2), .int (-4)]) h12)
    generalize upd S11 a12 (.tup [.int (-2), .int (-4)]) = S12 at *
    clear P11 D11 F11 h12
    refine ⟨_, _, rfl, rfl, p39, _, _, rfl, rfl, p39, _, _, rfl, rfl, (by show 2 ≤ sizeLine; decide), fun a13 h13 => ?_⟩
    have P13 := P12.add (x := .int (10 ^ (39 : Int).toNat)) (y := .int (10 ^ (39 : Int).toNat - 1)) h13 (D12.ne h13) (oi (by unfold Sz; decide +kernel)) (oi (by unfold Sz; decide +kernel))
    have D13 := D12.upd (o := .tup [.int (10 ^ (39 : Int).toNat), .int (10 ^ (39 : Int).toNat - 1)]) h13
    have F13 := F12.trans (up (o := .tup [.int (10 ^ (39 : Int).toNat), .int (10 ^ (39 : Int).toNat - 1)]) h13)
    generalize upd S12 a13 (.tup [.int (10 ^ (39 : Int).toNat), .int (10 ^ (39 : Int).toNat - 1)]) = S13 at *
    clear P12 D12 F12 h13
    refine ⟨_, _, rfl, rfl, p39, _, _, rfl, rfl, p38, _, _, rfl, rfl, c2, (by show 2 ≤ sizeLine; decide), fun a14 h14 => ?_⟩
    have P14 := P13.add (x := .int (10 ^ (39 : Int).toNat)) (y := .int (2 * 10 ^ (38 : Int).toNat)) h14 (D13.ne h14) (oi (by unfold Sz; decide +kernel)) (oi (by unfold Sz; decide +kernel))
    have D14 := D13.upd (o := .tup [.int (10 ^ (39 : Int).toNat), .int (2 * 10 ^ (38 : Int).toNat)]) h14
    have F14 := F13.trans (up (o := .tup [.int (10 ^ (39 : Int).toNat), .int (2 * 10 ^ (38 : Int).toNat)]) h14)
    generalize upd S13 a14 (.tup [.int (10 ^ (39 : Int).toNat), .int (2 * 10 ^ (38 : Int).toNat)]) = S14 at *
    clear P13 D13 F13 h14
    refine ⟨_, _, rfl, rfl, p39, (by show 2 ≤ sizeLine; decide), fun a15 h15 => ?_⟩
    have P15 := P14.add (x := .int 0) (y := .int (10 ^ (39 : Int).toNat)) h15 (D14.ne h15) (oi (by unfold Sz; decide +kernel)) (oi (by unfold Sz; decide +kernel))
    have D15 := D14.upd (o := .tup [.int 0, .int (10 ^ (39 : Int).toNat)]) h15
    have F15 := F14.trans (up (o := .tup [.int 0, .int (10 ^ (39 : Int).toNat)]) h15)
    generalize upd S14 a15 (.tup [.int 0, .int (10 ^ (39 : Int).toNat)]) = S15 at *
    clear P14 D14 F14 h15
    refine ⟨(by show 2 ≤ sizeLine; decide), fun a16 h16 => ?_⟩
    have P16 := P15.add (x := .str "1") (y := .int 1) h16 (D15.ne h16) (os (by decide +kernel)) (oi (by unfold Sz; decide +kernel))
    have D16 := D15.upd (o := .tup [.str "1", .int 1]) h16
    have F16 := F15.trans (up (o := .tup [.str "1", .int 1]) h16)
    generalize upd S15 a16 (.tup [.str "1", .int 1]) = S16 at *
    clear P15 D15 F15 h16
    refine ⟨(by show 2 ≤ sizeLine; decide), fun a17 h17 => ?_⟩
    have P17 := P16.add (x := .int 1) (y := .str "1") h17 (D16.ne h17) (oi (by unfold Sz; decide +kernel)) (os (by decide +kernel))
    have D17 := D16.upd (o := .tup [.int 1, .str "1"]) h17
    have F17 := F16.trans (up (o := .tup [.int 1, .str "1"]) h17)
    generalize upd S16 a17 (.tup [.int 1, .str "1"]) = S17 at *
    clear P16 D16 F16 h17
    have Q2 : PrsA C d S17 [V.ref a12, .ref a13, .ref a14, .ref a15, .ref a16, .ref a17] := P17
    refine ⟨(by show 6 ≤ sizeLine; decide), fun l2 hl2 => ?_⟩
    generalize hxs2 : [V.ref a12, .ref a13, .ref a14, .ref a15, .ref a16, .ref a17] = xs2 at *
    have len2 : xs2.length = 6 := by rw [← hxs2]; rfl
    have F18 := F17.trans (up (o := .lst xs2) hl2)
    have D18 := D17.upd (o := .lst xs2) hl2
    have R18 := (R1.fw F18).cat (Q2.fw (up (o := .lst xs2) hl2))
    have hlB := F18.kp _ _ nl1 hlA
    have hlC : (upd S17 l2 (.lst xs2)) l2 = some (.lst xs2) := upd_same
    clear P17 Q2 D17 F17 hl2
    generalize upd S17 l2 (.lst xs2) = S18 at *
    refine ⟨l1, l2, _, _, rfl, rfl, hlB, hlC, (by rw [len1, len2]; decide), fun l3 hl3 => ?_⟩
    have nl3 := D18.ne hl3
    have R19 := R18.fw (up (o := .lst (xs1 ++ xs2)) hl3)
    have D19 := D18.upd (o := .lst (xs1 ++ xs2)) hl3
    have F19 := (G1.trans F18).trans (up (o := .lst (xs1 ++ xs2)) hl3)
    have hlD : (upd S18 l3 (.lst (xs1 ++ xs2))) l3 = some (.lst (xs1 ++ xs2)) := upd_same
    have len3 : (xs1 ++ xs2).length = 16 := by rw [List.length_append, len1, len2]
    generalize upd S18 l3 (.lst (xs1 ++ xs2)) = S19 at *
    generalize xs1 ++ xs2 = xs3 at *
    have hl0 := (G1.trans F18).nn l3 hl3
    clear R18 D18 F18 hlB hlC hl3 R1 E1 G1 hlA
    refine ⟨_, rfl, .inl ⟨rfl, _, SqL.of hlD⟩, (by show 1 ≤ sizeLine; decide), fun b1 g1 => ⟨(by show 2 ≤ sizeLine; decide), fun b2 g2 => ?_⟩⟩
    have nb1 := D19.ne g1
    have u1 := up (o := .tup [.int 0]) g1
    have hb1 : (upd S19 b1 (.tup [V.int 0])) b1 = some (.tup [.int 0]) := upd_same
    have n31 : b1 ≠ l3 := fun z => by rw [z, hlD] at g1; cases g1
    have hlE := u1.kp _ _ nl3 hlD
    have D20 := D19.upd (o := .tup [.int 0]) g1
    have R20 := R19.fw u1
    have F20 := F19.trans u1
    generalize upd S19 b1 (.tup [V.int 0]) = S20 at *
    have nb2 := D20.ne g2
    have u2 := up (o := .tup [.int 1, .ref b1]) g2
    have hb2 : (upd S20 b2 (.tup [V.int 1, .ref b1])) b2 = some (.tup [.int 1, .ref b1]) := upd_same
    have n32 : b2 ≠ l3 := fun z => by rw [z, hlE] at g2; cases g2
    have hlF := u2.kp _ _ nl3 hlE
    have hb1' := u2.kp _ _ nb1 hb1
    have D21 := D20.upd (o := .tup [.int 1, .ref b1]) g2
    have R21 := R20.fw u2
    have F21 := F20.trans u2
    generalize upd S20 b2 (.tup [V.int 1, .ref b1]) = S21 at *
    refine ⟨l3, _, _, rfl, rfl, hlF, by rw [len3]; decide, ?_⟩
    have R22 := R21.write (us := xs3 ++ [.ref b2]) hlF
    have hb1'' : (upd S21 l3 (.lst (xs3 ++ [.ref b2]))) b1 = some (.tup [.int 0]) := by rw [upd_ne n31]; exact hb1'
    have hb2'' : (upd S21 l3 (.lst (xs3 ++ [.ref b2]))) b2 = some (.tup [.int 1, .ref b1]) := by rw [upd_ne n32]; exact hb2
    have hl22 : (upd S21 l3 (.lst (xs3 ++ [.ref b2]))) l3 = some (.lst (xs3 ++ [.ref b2])) := upd_same
    have D22 : DeckAt (upd S21 l3 (.lst (xs3 ++ [.ref b2]))) d := let ⟨u, v, x, h⟩ := D21; ⟨u, v, x, by rw [upd_ne (Ne.symm nl3)]; exact h⟩
    have R23 : PrsO C d (upd S21 l3 (.lst (xs3 ++ [.ref b2]))) (xs3 ++ [.ref b2]) := R22.o.cat fun v hv => ⟨b2, .int 1, .ref b1, List.mem_singleton.mp hv, nb2, hb2'', oi (by unfold Sz; decide +kernel) _,
      ⟨[b1], fun z => nb1 (List.mem_singleton.mp z).symm, (fun b hb z => by rw [List.mem_singleton.mp hb, hb1''] at z; cases z), .tup (n := 0) (L := 1601) (as := []) hb1'' List.not_mem_nil (fun v hv => by rw [List.mem_singleton.mp hv]; exact .int (by unfold Sz; decide +kernel) (Nat.le_refl _)) (by decide) (by show 1 * 1603 + 3 ≤ 300000; decide) fun b hb => hb⟩⟩
    have F23 := F21.at (o := .lst (xs3 ++ [.ref b2])) hl0
    have len4 : (xs3 ++ [V.ref b2]).length = 17 := by rw [List.length_append, len3]; rfl
    clear R22 R21 R20 R19 D19 D20 D21 F19 F20 F21 u1 u2 hb1 hb1' hb1'' hb2 hb2'' hlD hlE hlF g1 g2
    generalize upd S21 l3 (.lst (xs3 ++ [.ref b2])) = S22 at *
    generalize xs3 ++ [V.ref b2] = xs4 at *
    refine ⟨8, rfl, by decide, by decide, for_range (lo := 0) (n := 8) (fun j σ H2 => ∃ l xs u2 u3 u4 u5, σ = [some (.ref d), some (.ref l), u2, u3, u4, u5] ∧ H2 l = some (.lst xs) ∧ l ≠ d ∧ xs.length = 17 + 8 * j ∧ PrsO C d H2 xs ∧ DeckAt H2 d ∧ Fw d S0 H2) ?_ ?_ ?_⟩
    · exact ⟨l3, xs4, _, _, _, _, rfl, hl22, nl3, len4, R23, D22, F23⟩
    · rintro j σ T0 hj ⟨l, xs, u2, u3, u4, u5, rfl, hl, nl, ln, R, D, G⟩
      refine ⟨_, rfl, d, rfl, D, fun p t b T1 t0 t1 b0 b1 np hp D1 e1 => ?_⟩
      refine ⟨p, _, rfl, SqT.of hp, rfl, _, _, rfl, _, _, rfl, rfl, ?_⟩
      refine ⟨_, rfl, d, 99, rfl, by decide, by decide, D1, fun q q0 q1 T2 D2 e2 => ⟨_, _, rfl, rfl, ?_⟩⟩
      have g2 := e1.trans (Fw.draw D2 e2)
      have zt : Sz 100 t := by unfold Sz; omega
      have zb : Sz 100 b := by unfold Sz; omega
      have zq : Sz 100 (2 + q) := by unfold Sz; omega
      have m1 := zt.mulOk zq (by decide) (by decide) (by decide)
      have m2 := zb.mulOk zq (by decide) (by decide) (by decide)
      have oT : ∀ H, Od C d 20 300000 H (.int t) := oi (zt.mono (by decide))
      have oB : ∀ H, Od C d 20 300000 H (.int b) := oi (zb.mono (by decide))
      have hl2 := g2.kp _ _ nl hl
      have R2 := R.fw g2
      have G2 := G.trans g2
      clear R G hl D D1 e1 e2 hp np g2
      have P0 : PrsA C d T2 [] := fun _ z => nomatch z
      have F0 := Fw.refl d T2
      have D0 := D2
      refine ⟨_, rfl, _, rfl, _, rfl, (by show 2 ≤ sizeLine; decide), fun a1 h1 => ?_⟩
      have P1 := P0.add (x := .int t) (y := .int b) h1 (D0.ne h1) oT oB
      have D1 := D0.upd (o := .tup [.int t, .int b]) h1
      have F1 := F0.trans (up (o := .tup [.int t, .int b]) h1)
      generalize upd T2 a1 (.tup [.int t, .int b]) = U1 at *
      clear P0 D0 F0 h1
      refine ⟨_, rfl, _, rfl, _, _, rfl, rfl, m1, _, rfl, _, rfl, _, _, rfl, rfl, m2, (by show 2 ≤ sizeLine; decide), fun a2 h2 => ?_⟩
      have P2 := P1.add (x := .int (t * (2 + q))) (y := .int (b * (2 + q))) h2 (D1.ne h2) (oi ((zt.mul zq).mono (by decide))) (oi ((zb.mul zq).mono (by decide)))
      have D2 := D1.upd (o := .tup [.int (t * (2 + q)), .int (b * (2 + q))]) h2
      have F2 := F1.trans (up (o := .tup [.int (t * (2 + q)), .int (b * (2 + q))]) h2)
      generalize upd U1 a2 (.tup [.int (t * (2 + q)), .int (b * (2 + q))]) = U2 at *
      clear P1 D1 F1 h2
      refine ⟨_, rfl, _, _, rfl, rfl, _, rfl, (by show 2 ≤ sizeLine; decide), fun a3 h3 => ?_⟩
      have P3 := P2.add (x := .int (0 - t)) (y := .int b) h3 (D2.ne h3) (oi (by unfold Sz; omega)) oB
      have D3 := D2.upd (o := .tup [.int (0 - t), .int b]) h3
      have F3 := F2.trans (up (o := .tup [.int (0 - t), .int b]) h3)
      generalize upd U2 a3 (.tup [.int (0 - t), .int b]) = U3 at *
      clear P2 D2 F2 h3
      refine ⟨_, rfl, _, rfl, _, _, rfl, rfl, (by show 2 ≤ sizeLine; decide), fun a4 h4 => ?_⟩
      have P4 := P3.add (x := .int t) (y := .int (0 - b)) h4 (D3.ne h4) oT (oi (by unfold Sz; omega))
      have D4 := D3.upd (o := .tup [.int t, .int (0 - b)]) h4
      have F4 := F3.trans (up (o := .tup [.int t, .int (0 - b)]) h4)
      generalize upd U3 a4 (.tup [.int t, .int (0 - b)]) = U4 at *
      clear P3 D3 F3 h4
      refine ⟨_, rfl, (by show 2 ≤ sizeLine; decide), fun a5 h5 => ?_⟩
      have P5 := P4.add (x := .int t) (y := .int 0) h5 (D4.ne h5) oT (oi (by unfold Sz; decide +kernel))
      have D5 := D4.upd (o := .tup [.int t, .int 0]) h5
      have F5 := F4.trans (up (o := .tup [.int t, .int 0]) h5)
      generalize upd U4 a5 (.tup [.int t, .int 0]) = U5 at *
      clear P4 D4 F4 h5
      have Q5 : PrsA C d U5 [V.ref a1, .ref a2, .ref a3, .ref a4, .ref a5] := P5
      refine ⟨(by show 5 ≤ sizeLine; decide), fun l5 hl5 => ?_⟩
      generalize hys : [V.ref a1, .ref a2, .ref a3, .ref a4, .ref a5] = ys at *
      have ly : ys.length = 5 := by rw [← hys]; rfl
      have F6 := F5.trans (up (o := .lst ys) hl5)
      have D6 := D5.upd (o := .lst ys) hl5
      have R6 := (R2.fw F6).cat (Q5.fw (up (o := .lst ys) hl5)).o
      have hlB := F6.kp _ _ nl hl2
      have hlC : (upd U5 l5 (.lst ys)) l5 = some (.lst ys) := upd_same
      clear P5 Q5 D5 F5 hl5
      generalize upd U5 l5 (.lst ys) = U6 at *
      refine ⟨l, l5, _, _, rfl, rfl, hlB, hlC, Nat.le_trans (show _ ≤ 200 by omega) (by decide), fun l6 hl6 => ?_⟩
      have nl6 := D6.ne hl6
      have R7 := R6.fw (up (o := .lst (xs ++ ys)) hl6)
      have D7 := D6.upd (o := .lst (xs ++ ys)) hl6
      have G7 := (G2.trans F6).trans (up (o := .lst (xs ++ ys)) hl6)
      have hl7 : (upd U6 l6 (.lst (xs ++ ys))) l6 = some (.lst (xs ++ ys)) := upd_same
      have ln7 : (xs ++ ys).length = 22 + 8 * j := by rw [List.length_append, ln, ly]; omega
      generalize upd U6 l6 (.lst (xs ++ ys)) = U7 at *
      generalize xs ++ ys = xs7 at *
      clear R6 D6 F6 hlB hlC hl6 R2 G2 hl2 D2
      refine ⟨_, rfl, _, rfl, d, rfl, D7, fun v1 W1 ov1 E1 f1 => ?_⟩
      refine ⟨_, rfl, (by show 2 ≤ sizeLine; decide), fun c1 k1 => ?_⟩
      have S1 : PrsO C d _ [V.ref c1] := PrsO.add (xs := []) (fun _ z => nomatch z) k1 (E1.ne k1) ov1 (oB _)
      have w1 := up (o := .tup [v1, .int b]) k1
      refine ⟨_, rfl, _, rfl, d, rfl, E1.upd k1, fun v2 W2 ov2 E2 f2 => ⟨(by show 2 ≤ sizeLine; decide), fun c2 k2 => ?_⟩⟩
      have S2 : PrsO C d _ [V.ref c1, .ref c2] := PrsO.add (xs := [V.ref c1]) (S1.fw f2) k2 (E2.ne k2) (oT _) ov2
      have w2 := up (o := .tup [.int t, v2]) k2
      refine ⟨_, rfl, d, rfl, E2.upd k2, fun v3 W3 ov3 E3 f3 => ⟨_, rfl, d, rfl, E3, fun v4 W4 ov4 E4 f4 => ⟨(by show 2 ≤ sizeLine; decide), fun c3 k3 => ⟨(by show 3 ≤ sizeLine; decide), fun l8 hl8 => ?_⟩⟩⟩⟩
      have S3 : PrsO C d _ [V.ref c1, .ref c2, .ref c3] := PrsO.add (xs := [V.ref c1, .ref c2]) ((S2.fw f3).fw f4) k3 (E4.ne k3) (ov3.fw f4) ov4
      have w3 := up (o := .tup [v3, v4]) k3
      have w4 := up (o := .lst [.ref c1, .ref c2, .ref c3]) hl8
      have all := ((((((f1.trans w1).trans f2).trans w2).trans f3).trans f4).trans w3).trans w4
      have E5 := (E4.upd (o := .tup [v3, v4]) k3).upd (o := .lst [.ref c1, .ref c2, .ref c3]) hl8
      refine ⟨l6, l8, _, _, rfl, rfl, all.kp _ _ nl6 hl7, upd_same, Nat.le_trans (show xs7.length + 3 ≤ 200 by omega) (by decide), fun l9 hl9 => ?_⟩
      have w5 := up (o := .lst (xs7 ++ [.ref c1, .ref c2, .ref c3])) hl9
      exact ⟨l9, _, _, _, _, _, rfl, upd_same, E5.ne hl9, by rw [List.length_append, ln7]; show 22 + 8 * j + 3 = _; omega, (((R7.fw all).cat (S3.fw w4)).fw w5), E5.upd hl9, (G7.trans all).trans w5⟩
    · rintro σ T0 ⟨l, xs, u2, u3, u4, u5, rfl, hl, nl, ln, R, D, G⟩
      exact ⟨_, rfl, k l xs T0 D G hl R⟩
end
end K
namespace K
open PySem L2 Rp
def spLaw (K : PySem.W.Frag) : Sp := fun vs H Q _ => ∃ (a : Addr) (ns : List Int), vs = [.ref a] ∧ SqL K H a (ns.map V.int) ∧ ns.length ≤ 63 ∧ ∀ H', Q (.bl true) H'
theorem pr_of {C d : Addr} {H : Hp} {x y : V} (h1 : Od C d 20 300000 H x) (h2 : Od C d 20 300000 H y) : Pr C H x y := by
  obtain ⟨as, _, a2, a3⟩ := od_all (al (p := fun v => Od C d 20 300000 H v) h1 (al h2 al0))
  exact ⟨as, a2, a3 x (by simp), a3 y (by simp)⟩
section
variable {P : Program} {w : World} {K : PySem.W.Frag} {mg : Str → Option Value} {base : Heap}
theorem scLaw : FnScope ["_law_script", "_law_cell", "_law_deck_here", "_law_top", "_law_bottom"] ["_law_script"] (defScope sLaw) := ⟨rfl, rfl, rfl, by decide +kernel, rfl, by decide +kernel, by decide +kernel⟩
theorem ok_law {f C fW fI fDk fPa fT fRi fIs : Addr} {fd dI dDk dPa dT dRi dIs : FuncData} (F : Fun K "law" "law" sLaw f fd) (T : WTxt K mg C fW)
    (M : Mk K C fI) (GI : FnOk P w K mg base CX0 2 fI dI ["self", "top", "bottom"] (spInit C)) (bI : Binds K dI ["self", "top", "bottom"] []) {ds : List Value} (vd : Vals [V.int 1] ds) (bI1 : Binds K dI ["self", "top", "bottom"] ds)
    (cDk : Cl K mg "_law_deck" fDk dDk ["_law_cell"]) (GDk : FnOk P w K mg base CX0 1 fDk dDk ["_law_cell"] spDeck)
    (cPa : Cl K mg "_law_pairs" fPa dPa ["_law_deck_here"]) (GPa : FnOk P w K mg base CX0 5 fPa dPa ["_law_deck_here"] (spPairs C))
    (cT : Cl K mg "_law_two" fT dT ["_law_deck_here"]) (GT : FnOk P w K mg base CX0 2 fT dT ["_law_deck_here"] spTwo)
    (cRi : Cl K mg "_law_right" fRi dRi ["_law_top", "_law_bottom"]) (GRi : FnG P w K mg base CX0 23 fRi dRi ["_law_top", "_law_bottom"] (spRight C))
    (cIs : Cl K mg "_law_is" fIs dIs ["_law_found", "_law_top", "_law_bottom"]) (GIs : FnOk P w K mg base CX0 3 fIs dIs ["_law_found", "_law_top", "_law_bottom"] (spIs C)) : FnG P w K mg base CX0 24 f fd ["_law_script"] (spLaw K) := by
  refine Fun_okG0 F scLaw (fun vs H Q E h => ?_) (fun cdv A outer s H vs Q E gd hr h => ?_)
  · obtain ⟨a, ns, rfl, _⟩ := h
    rfl
  · obtain ⟨a, ns, rfl, hS, hlen, k⟩ := h
    refine ⟨_, (pss_cons (ps_for PassesOwn.never rfl (pi_list (pe_op op_cat (pe_slice sl_list (pv 0) po_none (po_some pe_int)) (pe_lst (pa_cons pe_int pa_nil)))) (pg_name (i := 1) scLaw.nd rfl (Or.inl rfl))
      (pss_cons (ps_set (i := 2) scLaw.nd rfl (Or.inl rfl) (pe_call GDk (hr.mono (by decide)) (by rfl) cDk.g cDk.k cDk.b .nil pass0 (pa_cons (pv 1) pa_nil)))
    (pss_cons (ps_for PassesOwn.never rfl (pi_list (pe_call GPa (hr.mono (by decide)) (by rfl) cPa.g cPa.k cPa.b .nil pass0 (pa_cons (pv 2) pa_nil))) (pg_tup rfl (pgs_cons (pg_name (i := 3) scLaw.nd rfl (Or.inl rfl)) (pgs_cons (pg_name (i := 4) scLaw.nd rfl (Or.inl rfl)) pgs_nil)))
      (pss_one (ps_if (pt_not (pt_val (pe_callG GRi gd (hr.mono (by decide)) (by rfl) cRi.g cRi.k cRi.b .nil pass0 (pa_cons (pv 3) (pa_cons (pv 4) pa_nil))))) (pss_one (ps_ret pe_bl)) pss_nil)))
    (pss_cons (ps_asg (pe_call GT (hr.mono (by decide)) (by rfl) cT.g cT.k cT.b .nil pass0 (pa_cons (pv 2) pa_nil)) (pg_tup rfl (pgs_cons (pg_name (i := 3) scLaw.nd rfl (Or.inl rfl)) (pgs_cons (pg_name (i := 4) scLaw.nd rfl (Or.inl rfl)) pgs_nil))))
    (pss_one (ps_if (PW.pt (pw_or (pt_not (pt_val (pe_call GIs (hr.mono (by decide)) (by rfl) cIs.g cIs.k cIs.b .nil pass0 (pa_cons (pe_make M GI (hr.mono (by decide)) (by rfl) T.mgC bI1 vd pass0 (pa_cons (pv 3) pa_nil)) (pa_cons (pv 3) (pa_cons pe_int pa_nil)))))) (pw_or1 (pt_not (pt_val (pe_call GIs (hr.mono (by decide)) (by rfl) cIs.g cIs.k cIs.b .nil pass0 (pa_cons (pe_make M GI (hr.mono (by decide)) (by rfl) T.mgC bI .nil pass0 (pa_cons (pv 3) (pa_cons (pv 4) pa_nil))) (pa_cons (pv 3) (pa_cons (pv 4) pa_nil))))))))) (pss_one (ps_ret pe_bl)) pss_nil))))))
    (pss_one (ps_ret pe_bl))), ?_⟩
    refine ⟨_, rfl, 10, rfl, a, _, rfl, hS, fun p1 h1 => ⟨(by show 1 ≤ sizeLine; decide), fun p2 h2 => ?_⟩⟩
    have n12 : p1 ≠ p2 := fun z => by rw [← z, upd_same] at h2; cases h2
    have hcut : (cutV (ns.map V.int) none (some 10)).length ≤ 63 := by
      have := cutV_length (ns.map V.int) none (some 10)
      rw [List.length_map] at this
      omega
    refine ⟨p1, p2, _, _, rfl, rfl, by rw [upd_ne n12]; exact upd_same, upd_same, ?_, fun p3 h3 => ?_⟩
    · have e : ([V.int 3] : List V).length = 1 := rfl
      rw [e]
      exact Nat.le_trans (Nat.add_le_add_right hcut 1) (by decide)
    have allz : ∀ (i : Nat) (x : V), (cutV (ns.map V.int) none (some 10) ++ [V.int 3])[i]? = some x → ∃ z, x = .int z := fun i x hx => by
      have hm := List.mem_of_getElem? hx
      rcases List.mem_append.mp hm with z | z
      · have z2 : x ∈ ns.map V.int := List.mem_of_mem_drop (List.mem_of_mem_take z)
        obtain ⟨n, _, e⟩ := List.mem_map.mp z2
        exact ⟨n, e.symm⟩
      · exact ⟨3, List.mem_singleton.mp z⟩
    generalize hH0 : upd (upd (upd H p1 (.lst (cutV (ns.map V.int) none (some 10)))) p2 (.lst [V.int 3])) p3 (.lst (cutV (ns.map V.int) none (some 10) ++ [V.int 3])) = H0
    generalize hcs : cutV (ns.map V.int) none (some 10) ++ [V.int 3] = cs at *
    have hL0 : H0 p3 = some (.lst cs) := by rw [← hH0]; exact upd_same
    refine ⟨p3, rfl, ⟨_, SqL.of hL0⟩, for_list (K := K) (a := p3) (xs := cs) (fun i σ H' => Same H0 H' ∧ ∃ v1 v2 v3 v4, σ = [some (.ref a), v1, v2, v3, v4])
      ⟨Same.refl _, none, none, none, none, rfl⟩ (fun i σ H' _ ⟨e, _⟩ => e.seq (SqL.of hL0)) ?_ ?_⟩
    · rintro i x σ H' hx ⟨e0, v1, v2, v3, v4, rfl⟩
      obtain ⟨z, rfl⟩ := allz i x hx
      refine ⟨_, rfl, z, rfl, fun d hd H1 d1 q1 => ?_⟩
      have e1 : Same H' H1 := fun y o hy => (q1 y (ne_of_none hy hd)).trans hy
      have frame : ∀ {H2 : Hp}, Fw d H1 H2 → Same H' H2 := fun f y o hy => f.kp y o (ne_of_none hy hd) (e1 _ _ hy)
      refine ⟨_, rfl, d, rfl, d1, fun l xs H2 d2 f2 hl R => ?_⟩
      refine ⟨l, rfl, ⟨_, SqL.of hl⟩, for_list (K := K) (a := l) (xs := xs) (fun i σ H3 => Same H2 H3 ∧ ∃ u3 u4, σ = [some (.ref a), some (.int z), some (.ref d), u3, u4])
        ⟨Same.refl _, _, _, rfl⟩ (fun i σ H' _ ⟨e, _⟩ => e.seq (SqL.of hl)) ?_ ?_⟩
      · rintro i v σ H3 hv ⟨e3, u3, u4, rfl⟩
        obtain ⟨c, x, y, rfl, _, hc, ox, oy⟩ := R v (List.mem_of_getElem? hv)
        refine ⟨c, _, rfl, SqT.of (e3 _ _ hc), rfl, _, _, rfl, _, _, rfl, rfl, ?_⟩
        refine ⟨_, rfl, _, rfl, x, y, rfl, pr_of (ox.same e3) (oy.same e3), fun H4 e4 => ⟨true, rfl, iteF ⟨e3.trans e4, _, _, rfl⟩⟩⟩
      · rintro σ H3 ⟨e3, u3, u4, rfl⟩
        refine ⟨_, rfl, d, rfl, d2.same e3, fun p t b H4 t0 t1 b0 b1 np hp d4 f4 => ?_⟩
        refine ⟨p, _, rfl, SqT.of hp, rfl, _, _, rfl, _, _, rfl, rfl, ?_⟩
        have zt : Sz 8000 t := Sz.mono (a := 100) (by unfold Sz; omega) (by decide)
        have zb : Sz 8000 b := Sz.mono (a := 100) (by unfold Sz; omega) (by decide)
        have z1 : Sz 8000 1 := Sz.mono (a := 100) (by unfold Sz; decide) (by decide)
        have g4 : Same H' H4 := frame ((f2.trans (Fw.of_same e3)).trans f4)
        refine ⟨_, rfl, fun x dx nx ndx ne => ?_⟩
        have s5 := same_make (C := C) (fs := wf (lowT t 1) (lowB t 1)) nx ndx
        refine ⟨x, dx, t, 1, rfl, upd_same, t0, by decide, z1, rfl, _, rfl, x, t, 1, rfl, t0, by decide, z1, ⟨dx, upd_same⟩, fun H5 e5 => ⟨true, rfl, iteF ?_⟩⟩
        refine ⟨_, rfl, _, rfl, fun x2 dx2 nx2 ndx2 ne2 => ?_⟩
        have s6 := same_make (C := C) (fs := wf (lowT t b) (lowB t b)) nx2 ndx2
        refine ⟨x2, dx2, t, b, rfl, upd_same, t0, b0, zb, rfl, _, rfl, _, rfl, x2, t, b, rfl, t0, b0, zb, ⟨dx2, upd_same⟩, fun H6 e6 => ⟨true, rfl, iteF ?_⟩⟩
        exact ⟨e0.trans (g4.trans ((s5.trans e5).trans (s6.trans e6))), _, _, _, _, rfl⟩
    · rintro σ H' ⟨e0, v1, v2, v3, v4, rfl⟩
      exact k H'
end
end K
namespace K
open PySem L2 Rp
theorem bindsI {K : PySem.W.Frag} {f : Addr} {fd : FuncData} (F : FunI K f fd) : Binds K fd ["self", "top", "bottom"] [] := by
  obtain ⟨ds, v, b⟩ := F.binds1 (ps := ["self", "top", "bottom"]) 3 1 (by simp) rfl fun T kV dc pm an cd ct us its hu hi => match us, its, hu, hi with | [_, _, _], [_], _, _ => ⟨_, rfl, rfl⟩
  cases v
  exact b
theorem bindsI1 {K : PySem.W.Frag} {f : Addr} {fd : FuncData} (F : FunI K f fd) : ∃ ds, Vals [V.int 1] ds ∧ Binds K fd ["self", "top", "bottom"] ds := by
  obtain ⟨ds, v, b⟩ := F.binds1 (ps := ["self", "top", "bottom"]) 2 0 (by simp) rfl fun T kV dc pm an cd ct us its hu hi => match us, its, hu, hi with | [_, _], [_], _, _ => ⟨_, rfl, rfl⟩
  exact ⟨ds, v, b⟩
theorem all_mk {l : PySem.W.OpenLaw} {w : World} {K : PySem.W.Frag} {h : Heap} {mg : Str → Option Value} {fa C fInit fRepr fShow fWhole fDeck fDraw fLWhole fDiv fTwo fLow fIs fOdd fMarks fHeard fRight fPairs fLaw NZ NW Xc1 Xc2 Xc3 Xc5 Xc6 Xc7 Xc8 Xc9 Xd1 Xd2 Xd3 Xd4 Xd5 Xk Xw : Addr} (X : K.In h) (G : h.Ns mainGlobals mg) (hfa : mg "law" = some (.ref fa))
    {odInit anInit : Option Addr} {slInit : Array (Option Value)} {ocInit kVInit dcInit pmInit cdInit ctInit : Value}
    {ocDInit : Value} {odDInit : Option Addr} {nDInit : Nat} {slDInit : Array (Option Value)} {tkDInit : Tok} {DInit : Addr}
    {odRepr anRepr : Option Addr} {slRepr : Array (Option Value)} {ocRepr kVRepr dcRepr pmRepr cdRepr ctRepr : Value}
    {odShow anShow : Option Addr} {slShow : Array (Option Value)} {ocShow kVShow dcShow pmShow cdShow ctShow : Value}
    {odWhole anWhole : Option Addr} {slWhole : Array (Option Value)} {ocWhole kVWhole dcWhole pmWhole cdWhole ctWhole : Value}
    {odDeck anDeck : Option Addr} {slDeck : Array (Option Value)} {ocDeck kVDeck dcDeck pmDeck cdDeck ctDeck : Value}
    {odDraw anDraw : Option Addr} {slDraw : Array (Option Value)} {ocDraw kVDraw dcDraw pmDraw cdDraw ctDraw : Value}
    {odLWhole anLWhole : Option Addr} {slLWhole : Array (Option Value)} {ocLWhole kVLWhole dcLWhole pmLWhole cdLWhole ctLWhole : Value}
    {odDiv anDiv : Option Addr} {slDiv : Array (Option Value)} {ocDiv kVDiv dcDiv pmDiv cdDiv ctDiv : Value}
    {odTwo anTwo : Option Addr} {slTwo : Array (Option Value)} {ocTwo kVTwo dcTwo pmTwo cdTwo ctTwo : Value}
    {odLow anLow : Option Addr} {slLow : Array (Option Value)} {ocLow kVLow dcLow pmLow cdLow ctLow : Value}
    {odIs anIs : Option Addr} {slIs : Array (Option Value)} {ocIs kVIs dcIs pmIs cdIs ctIs : Value}
    {odOdd anOdd : Option Addr} {slOdd : Array (Option Value)} {ocOdd kVOdd dcOdd pmOdd cdOdd ctOdd : Value}
    {odMarks anMarks : Option Addr} {slMarks : Array (Option Value)} {ocMarks kVMarks dcMarks pmMarks cdMarks ctMarks : Value}
    {odHeard anHeard : Option Addr} {slHeard : Array (Option Value)} {ocHeard kVHeard dcHeard pmHeard cdHeard ctHeard : Value}
    {odRight anRight : Option Addr} {slRight : Array (Option Value)} {ocRight kVRight dcRight pmRight cdRight ctRight : Value}
    {odPairs anPairs : Option Addr} {slPairs : Array (Option Value)} {ocPairs kVPairs dcPairs pmPairs cdPairs ctPairs : Value}
    {odLaw anLaw : Option Addr} {slLaw : Array (Option Value)} {ocLaw kVLaw dcLaw pmLaw cdLaw ctLaw : Value}
    {zBLK : Int} {tBLK : Tok}
    (aC : PySem.W.nsIn K mainGlobals "Weight" = some (some (.ref C)))
    (pgC : PySem.W.plainGet K C Str.empty = true)
    (hdC : PySem.W.hasDictIn K C = true)
    (poC : PySem.W.plainOver K C = true)
    (saC : PySem.W.findIn K (.ref C) "__setattr__" = some (some (.builtin "object.__setattr__")))
    (mkC : PySem.W.makesIn K C = true)
    (kcC : PySem.W.keepIn K (.ref C) = true)
    (nC_top : PySem.W.findIn K (.ref C) "top" = some none)
    (nC_bottom : PySem.W.findIn K (.ref C) "bottom" = some none)
    (waC : PySem.W.findIn K (.ref C) "__class__" = some (some (.builtin "object.__class__")))
    (wmC : PySem.W.mroIn K C (.type "object") = some true)
    (wneC : PySem.W.findIn K (.ref C) "__ne__" = some (some (.builtin "object.__ne__")))
    (wn : PySem.W.specialIn K (.builtin "object.__class__") "__get__" = some (some (.builtin "getset_descriptor.__get__")))
    (wt : PySem.W.takesIn K (.builtin "object.__class__") = some true)
    (aInit : PySem.W.findIn K (.ref C) "__init__" = some (some (.ref fInit)))
    (iInit : PySem.W.isFn K (.ref fInit) = true)
    (lInit : K.lookup fInit = some ⟨ocInit, odInit, .func (PySem.W.fnOf "__init__" "Weight.__init__" (defArgs sInit) (defBody sInit) (defScope sInit) (.ref DInit) kVInit dcInit pmInit anInit cdInit ctInit), slInit⟩)
    (cInit : PySem.W.codeIn K cdInit "Weight.__init__" = true)
    (kInit : PySem.W.keepIn K (.ref fInit) = true)
    (lDInit : K.lookup DInit = some ⟨ocDInit, odDInit, .seq ([Value.int 1 tkDInit] : List Value).toArray nDInit, slDInit⟩)
    (aRepr : PySem.W.findIn K (.ref C) "__repr__" = some (some (.ref fRepr)))
    (iRepr : PySem.W.isFn K (.ref fRepr) = true)
    (lRepr : K.lookup fRepr = some ⟨ocRepr, odRepr, .func (PySem.W.fnOf "__repr__" "Weight.__repr__" (defArgs sRepr) (defBody sRepr) (defScope sRepr) .none kVRepr dcRepr pmRepr anRepr cdRepr ctRepr), slRepr⟩)
    (cRepr : PySem.W.codeIn K cdRepr "Weight.__repr__" = true)
    (kRepr : PySem.W.keepIn K (.ref fRepr) = true)
    (aShow : PySem.W.nsIn K mainGlobals "show_whole" = some (some (.ref fShow)))
    (lShow : K.lookup fShow = some ⟨ocShow, odShow, .func (PySem.W.fnOf "show_whole" "show_whole" (defArgs sShow) (defBody sShow) (defScope sShow) .none kVShow dcShow pmShow anShow cdShow ctShow), slShow⟩)
    (cShow : PySem.W.codeIn K cdShow "show_whole" = true)
    (kShow : PySem.W.keepIn K (.ref fShow) = true)
    (aWhole : PySem.W.nsIn K mainGlobals "is_whole" = some (some (.ref fWhole)))
    (lWhole : K.lookup fWhole = some ⟨ocWhole, odWhole, .func (PySem.W.fnOf "is_whole" "is_whole" (defArgs sWhole) (defBody sWhole) (defScope sWhole) .none kVWhole dcWhole pmWhole anWhole cdWhole ctWhole), slWhole⟩)
    (cWhole : PySem.W.codeIn K cdWhole "is_whole" = true)
    (kWhole : PySem.W.keepIn K (.ref fWhole) = true)
    (aDeck : PySem.W.nsIn K mainGlobals "_law_deck" = some (some (.ref fDeck)))
    (lDeck : K.lookup fDeck = some ⟨ocDeck, odDeck, .func (PySem.W.fnOf "_law_deck" "_law_deck" (defArgs sDeck) (defBody sDeck) (defScope sDeck) .none kVDeck dcDeck pmDeck anDeck cdDeck ctDeck), slDeck⟩)
    (cDeck : PySem.W.codeIn K cdDeck "_law_deck" = true)
    (kDeck : PySem.W.keepIn K (.ref fDeck) = true)
    (aDraw : PySem.W.nsIn K mainGlobals "_law_draw" = some (some (.ref fDraw)))
    (lDraw : K.lookup fDraw = some ⟨ocDraw, odDraw, .func (PySem.W.fnOf "_law_draw" "_law_draw" (defArgs sDraw) (defBody sDraw) (defScope sDraw) .none kVDraw dcDraw pmDraw anDraw cdDraw ctDraw), slDraw⟩)
    (cDraw : PySem.W.codeIn K cdDraw "_law_draw" = true)
    (kDraw : PySem.W.keepIn K (.ref fDraw) = true)
    (aLWhole : PySem.W.nsIn K mainGlobals "_law_whole" = some (some (.ref fLWhole)))
    (lLWhole : K.lookup fLWhole = some ⟨ocLWhole, odLWhole, .func (PySem.W.fnOf "_law_whole" "_law_whole" (defArgs sLWhole) (defBody sLWhole) (defScope sLWhole) .none kVLWhole dcLWhole pmLWhole anLWhole cdLWhole ctLWhole), slLWhole⟩)
    (cLWhole : PySem.W.codeIn K cdLWhole "_law_whole" = true)
    (kLWhole : PySem.W.keepIn K (.ref fLWhole) = true)
    (aDiv : PySem.W.nsIn K mainGlobals "_law_divides" = some (some (.ref fDiv)))
    (lDiv : K.lookup fDiv = some ⟨ocDiv, odDiv, .func (PySem.W.fnOf "_law_divides" "_law_divides" (defArgs sDiv) (defBody sDiv) (defScope sDiv) .none kVDiv dcDiv pmDiv anDiv cdDiv ctDiv), slDiv⟩)
    (cDiv : PySem.W.codeIn K cdDiv "_law_divides" = true)
    (kDiv : PySem.W.keepIn K (.ref fDiv) = true)
    (aTwo : PySem.W.nsIn K mainGlobals "_law_two" = some (some (.ref fTwo)))
    (lTwo : K.lookup fTwo = some ⟨ocTwo, odTwo, .func (PySem.W.fnOf "_law_two" "_law_two" (defArgs sTwo) (defBody sTwo) (defScope sTwo) .none kVTwo dcTwo pmTwo anTwo cdTwo ctTwo), slTwo⟩)
    (cTwo : PySem.W.codeIn K cdTwo "_law_two" = true)
    (kTwo : PySem.W.keepIn K (.ref fTwo) = true)
    (aLow : PySem.W.nsIn K mainGlobals "_law_lowest" = some (some (.ref fLow)))
    (lLow : K.lookup fLow = some ⟨ocLow, odLow, .func (PySem.W.fnOf "_law_lowest" "_law_lowest" (defArgs sLow) (defBody sLow) (defScope sLow) .none kVLow dcLow pmLow anLow cdLow ctLow), slLow⟩)
    (cLow : PySem.W.codeIn K cdLow "_law_lowest" = true)
    (kLow : PySem.W.keepIn K (.ref fLow) = true)
    (aIs : PySem.W.nsIn K mainGlobals "_law_is" = some (some (.ref fIs)))
    (lIs : K.lookup fIs = some ⟨ocIs, odIs, .func (PySem.W.fnOf "_law_is" "_law_is" (defArgs sIs) (defBody sIs) (defScope sIs) .none kVIs dcIs pmIs anIs cdIs ctIs), slIs⟩)
    (cIs : PySem.W.codeIn K cdIs "_law_is" = true)
    (kIs : PySem.W.keepIn K (.ref fIs) = true)
    (aOdd : PySem.W.nsIn K mainGlobals "_law_odd" = some (some (.ref fOdd)))
    (lOdd : K.lookup fOdd = some ⟨ocOdd, odOdd, .func (PySem.W.fnOf "_law_odd" "_law_odd" (defArgs sOdd) (defBody sOdd) (defScope sOdd) .none kVOdd dcOdd pmOdd anOdd cdOdd ctOdd), slOdd⟩)
    (cOdd : PySem.W.codeIn K cdOdd "_law_odd" = true)
    (kOdd : PySem.W.keepIn K (.ref fOdd) = true)
    (aMarks : PySem.W.nsIn K mainGlobals "_law_marks_of" = some (some (.ref fMarks)))
    (lMarks : K.lookup fMarks = some ⟨ocMarks, odMarks, .func (PySem.W.fnOf "_law_marks_of" "_law_marks_of" (defArgs sMarks) (defBody sMarks) (defScope sMarks) .none kVMarks dcMarks pmMarks anMarks cdMarks ctMarks), slMarks⟩)
    (cMarks : PySem.W.codeIn K cdMarks "_law_marks_of" = true)
    (kMarks : PySem.W.keepIn K (.ref fMarks) = true)
    (aHeard : PySem.W.nsIn K mainGlobals "_law_heard" = some (some (.ref fHeard)))
    (lHeard : K.lookup fHeard = some ⟨ocHeard, odHeard, .func (PySem.W.fnOf "_law_heard" "_law_heard" (defArgs sHeard) (defBody sHeard) (defScope sHeard) .none kVHeard dcHeard pmHeard anHeard cdHeard ctHeard), slHeard⟩)
    (cHeard : PySem.W.codeIn K cdHeard "_law_heard" = true)
    (kHeard : PySem.W.keepIn K (.ref fHeard) = true)
    (aRight : PySem.W.nsIn K mainGlobals "_law_right" = some (some (.ref fRight)))
    (lRight : K.lookup fRight = some ⟨ocRight, odRight, .func (PySem.W.fnOf "_law_right" "_law_right" (defArgs sRight) (defBody sRight) (defScope sRight) .none kVRight dcRight pmRight anRight cdRight ctRight), slRight⟩)
    (cRight : PySem.W.codeIn K cdRight "_law_right" = true)
    (kRight : PySem.W.keepIn K (.ref fRight) = true)
    (aPairs : PySem.W.nsIn K mainGlobals "_law_pairs" = some (some (.ref fPairs)))
    (lPairs : K.lookup fPairs = some ⟨ocPairs, odPairs, .func (PySem.W.fnOf "_law_pairs" "_law_pairs" (defArgs sPairs) (defBody sPairs) (defScope sPairs) .none kVPairs dcPairs pmPairs anPairs cdPairs ctPairs), slPairs⟩)
    (cPairs : PySem.W.codeIn K cdPairs "_law_pairs" = true)
    (kPairs : PySem.W.keepIn K (.ref fPairs) = true)
    (aLaw : PySem.W.nsIn K mainGlobals "law" = some (some (.ref fLaw)))
    (lLaw : K.lookup fLaw = some ⟨ocLaw, odLaw, .func (PySem.W.fnOf "law" "law" (defArgs sLaw) (defBody sLaw) (defScope sLaw) .none kVLaw dcLaw pmLaw anLaw cdLaw ctLaw), slLaw⟩)
    (cLaw : PySem.W.codeIn K cdLaw "law" = true)
    (kLaw : PySem.W.keepIn K (.ref fLaw) = true)
    (gBLK : PySem.W.nsIn K mainGlobals "BLOCK" = some (some (.int zBLK tBLK)))
    (big : (2 : Int) ^ 1600 ≤ zBLK)
    (ggcd : PySem.W.nsIn K mainGlobals "gcd" = some (some (.builtin "math.gcd")))
    (z_isinstance : PySem.W.nsIn K mainGlobals "isinstance" = some none)
    (z_int : PySem.W.nsIn K mainGlobals "int" = some none)
    (z_bool : PySem.W.nsIn K mainGlobals "bool" = some none)
    (z_abs : PySem.W.nsIn K mainGlobals "abs" = some none)
    (z_max : PySem.W.nsIn K mainGlobals "max" = some none)
    (z_range : PySem.W.nsIn K mainGlobals "range" = some none)
    (z_str : PySem.W.nsIn K mainGlobals "str" = some none)
    (z_reversed : PySem.W.nsIn K mainGlobals "reversed" = some none)
    (z_repr : PySem.W.nsIn K mainGlobals "repr" = some none)
    (z_len : PySem.W.nsIn K mainGlobals "len" = some none)
    (z_ValueError : PySem.W.nsIn K mainGlobals "ValueError" = some none)
    (z_ZeroDivisionError : PySem.W.nsIn K mainGlobals "ZeroDivisionError" = some none)
    (g_NZ : PySem.W.nsIn K mainGlobals "NoWhole" = some (some (.ref NZ)))
    (xqNZ : PySem.W.excIn K NZ bmZ "ZeroDivisionError.__new__" = true)
    (xkNZ : PySem.W.keepIn K (.ref NZ) = true)
    (xbNZ : PySem.W.subIn K (.ref NZ) (.type "BaseException") = some true)
    (xtNZ : PySem.W.typeIn K (.ref NZ) = some (.type "type"))
    (g_NW : PySem.W.nsIn K mainGlobals "NoWeight" = some (some (.ref NW)))
    (xqNW : PySem.W.excIn K NW bmV "ValueError.__new__" = true)
    (xkNW : PySem.W.keepIn K (.ref NW) = true)
    (xbNW : PySem.W.subIn K (.ref NW) (.type "BaseException") = some true)
    (xtNW : PySem.W.typeIn K (.ref NW) = some (.type "type"))
    (gaNZ : PySem.W.findIn K (.ref NZ) "__getattribute__" = some (some (.builtin "BaseException.__getattribute__")))
    (ggNZ : PySem.W.findIn K (.ref NZ) "__getattr__" = some none)
    (hdNZ : PySem.W.hasDictIn K NZ = true)
    (waNZ : PySem.W.findIn K (.ref NZ) "__class__" = some (some (.builtin "object.__class__")))
    (wmNZ : PySem.W.mroIn K NZ (.type "object") = some true)
    (gaNW : PySem.W.findIn K (.ref NW) "__getattribute__" = some (some (.builtin "BaseException.__getattribute__")))
    (ggNW : PySem.W.findIn K (.ref NW) "__getattr__" = some none)
    (hdNW : PySem.W.hasDictIn K NW = true)
    (waNW : PySem.W.findIn K (.ref NW) "__class__" = some (some (.builtin "object.__class__")))
    (wmNW : PySem.W.mroIn K NW (.type "object") = some true)
    (g_Xc1 : PySem.W.nsIn K mainGlobals "NoName" = some (some (.ref Xc1)))
    (km_c1 : PySem.W.kitOne K (.ref NW) (.ref Xc1) = some false)
    (g_Xc2 : PySem.W.nsIn K mainGlobals "NoGrains" = some (some (.ref Xc2)))
    (km_c2 : PySem.W.kitOne K (.ref NW) (.ref Xc2) = some false)
    (g_Xc3 : PySem.W.nsIn K mainGlobals "NoDay" = some (some (.ref Xc3)))
    (km_c3 : PySem.W.kitOne K (.ref NW) (.ref Xc3) = some false)
    (g_Xc5 : PySem.W.nsIn K mainGlobals "NoDeed" = some (some (.ref Xc5)))
    (km_c5 : PySem.W.kitOne K (.ref NW) (.ref Xc5) = some false)
    (g_Xc6 : PySem.W.nsIn K mainGlobals "NoRow" = some (some (.ref Xc6)))
    (km_c6 : PySem.W.kitOne K (.ref NW) (.ref Xc6) = some false)
    (g_Xc7 : PySem.W.nsIn K mainGlobals "NoText" = some (some (.ref Xc7)))
    (km_c7 : PySem.W.kitOne K (.ref NW) (.ref Xc7) = some false)
    (g_Xc8 : PySem.W.nsIn K mainGlobals "Unknown" = some (some (.ref Xc8)))
    (km_c8 : PySem.W.kitOne K (.ref NW) (.ref Xc8) = some false)
    (g_Xc9 : PySem.W.nsIn K mainGlobals "Unborne" = some (some (.ref Xc9)))
    (km_c9 : PySem.W.kitOne K (.ref NW) (.ref Xc9) = some false)
    (g_Xd1 : PySem.W.nsIn K mainGlobals "Twice" = some (some (.ref Xd1)))
    (km_d1 : PySem.W.kitOne K (.ref NW) (.ref Xd1) = some false)
    (g_Xd2 : PySem.W.nsIn K mainGlobals "TooLate" = some (some (.ref Xd2)))
    (km_d2 : PySem.W.kitOne K (.ref NW) (.ref Xd2) = some false)
    (g_Xd3 : PySem.W.nsIn K mainGlobals "NoSum" = some (some (.ref Xd3)))
    (km_d3 : PySem.W.kitOne K (.ref NW) (.ref Xd3) = some false)
    (g_Xd4 : PySem.W.nsIn K mainGlobals "Full" = some (some (.ref Xd4)))
    (km_d4 : PySem.W.kitOne K (.ref NW) (.ref Xd4) = some false)
    (g_Xd5 : PySem.W.nsIn K mainGlobals "NotAlike" = some (some (.ref Xd5)))
    (km_d5 : PySem.W.kitOne K (.ref NW) (.ref Xd5) = some false)
    (g_Xk : PySem.W.nsIn K mainGlobals "CaskError" = some (some (.ref Xk)))
    (km_k : PySem.W.kitOne K (.ref NW) (.ref Xk) = some true)
    (g_Xw : PySem.W.nsIn K mainGlobals "Wrong" = some (some (.ref Xw)))
    (km_w : PySem.W.kitOne K (.ref NW) (.ref Xw) = some true)
    (kv : PySem.W.kitOne K (.ref NW) (.type "ValueError") = some true)
    (kz1 : PySem.W.kitOne K (.ref NZ) (.type "ZeroDivisionError") = some true)
    (kz2 : PySem.W.kitOne K (.ref NZ) (.type "ValueError") = some false)
    (wi : PySem.W.kitOne K (.ref C) (.type "int") = some false)
    (wb : PySem.W.kitOne K (.ref C) (.type "bool") = some false)
    (kx2 : PySem.W.hasDictIn K Xk = true)
    (kx1 : PySem.W.subIn K (.ref Xk) (.type "BaseException") = some true)
    (kx3 : PySem.W.typeIn K (.ref Xk) = some (.type "type"))
    (sWk : PySem.W.subIn K (.ref NW) (.ref Xk) = some true)
    (sWZ : PySem.W.subIn K (.ref NW) (.ref NZ) = some false)
    (sZZ : PySem.W.subIn K (.ref NZ) (.ref NZ) = some true) :
    ∃ fd : FuncData, (∀ (s : Shared) (v : Value), BindsTo s fd ⟨[v], []⟩ [("_law_script", v)]) ∧ ∀ base : Heap, K.In base → base.Ns mainGlobals mg → FnG l.prog w K mg base CX0 24 fa fd ["_law_script"] (spLaw K) := by
  have e := hfa.symm.trans (PySem.W.mg_of X G aLaw)
  cases e
  have CLC : Cls K C := ⟨pgC, hdC, poC, saC⟩
  have NC : WIns K C := ⟨waC, wn, wt, wmC⟩
  have FInit : FunD K "__init__" "Weight.__init__" (defArgs sInit) (defBody sInit) (defScope sInit) [.int 1] [] fInit _ := ⟨⟨_, _, _, _, _, _, _, _, _, _, rfl, lInit, cInit, .inr ⟨by simp, DInit, _, [Value.int 1 tkDInit], _, rfl, lDInit, rfl, .cons (⟨_, rfl⟩) .nil⟩, .inl rfl⟩, kInit⟩
  have mInit : Meth K C "__init__" fInit := ⟨aInit, iInit, kInit⟩
  have FRepr := fun_mk (st := sRepr) lRepr cRepr kRepr
  have bRepr := FRepr.binds (ps := ["self"]) fun _ _ _ _ _ _ us hl => match us, hl with | [_], _ => rfl
  have FShow := fun_mk (st := sShow) lShow cShow kShow
  have qShow : Cl K mg "show_whole" fShow _ ["number"] := ⟨PySem.W.mg_of X G aShow, kShow, FShow.binds (ps := ["number"]) fun _ _ _ _ _ _ us hl => match us, hl with | [_], _ => rfl⟩
  have FWhole := fun_mk (st := sWhole) lWhole cWhole kWhole
  have qWhole : Cl K mg "is_whole" fWhole _ ["thing"] := ⟨PySem.W.mg_of X G aWhole, kWhole, FWhole.binds (ps := ["thing"]) fun _ _ _ _ _ _ us hl => match us, hl with | [_], _ => rfl⟩
  have FDeck := fun_mk (st := sDeck) lDeck cDeck kDeck
  have qDeck : Cl K mg "_law_deck" fDeck _ ["_law_cell"] := ⟨PySem.W.mg_of X G aDeck, kDeck, FDeck.binds (ps := ["_law_cell"]) fun _ _ _ _ _ _ us hl => match us, hl with | [_], _ => rfl⟩
  have FDraw := fun_mk (st := sDraw) lDraw cDraw kDraw
  have qDraw : Cl K mg "_law_draw" fDraw _ ["_law_deck_here", "_law_most"] := ⟨PySem.W.mg_of X G aDraw, kDraw, FDraw.binds (ps := ["_law_deck_here", "_law_most"]) fun _ _ _ _ _ _ us hl => match us, hl with | [_, _], _ => rfl⟩
  have FLWhole := fun_mk (st := sLWhole) lLWhole cLWhole kLWhole
  have qLWhole : Cl K mg "_law_whole" fLWhole _ ["_law_thing"] := ⟨PySem.W.mg_of X G aLWhole, kLWhole, FLWhole.binds (ps := ["_law_thing"]) fun _ _ _ _ _ _ us hl => match us, hl with | [_], _ => rfl⟩
  have FDiv := fun_mk (st := sDiv) lDiv cDiv kDiv
  have qDiv : Cl K mg "_law_divides" fDiv _ ["_law_one", "_law_other"] := ⟨PySem.W.mg_of X G aDiv, kDiv, FDiv.binds (ps := ["_law_one", "_law_other"]) fun _ _ _ _ _ _ us hl => match us, hl with | [_, _], _ => rfl⟩
  have FTwo := fun_mk (st := sTwo) lTwo cTwo kTwo
  have qTwo : Cl K mg "_law_two" fTwo _ ["_law_deck_here"] := ⟨PySem.W.mg_of X G aTwo, kTwo, FTwo.binds (ps := ["_law_deck_here"]) fun _ _ _ _ _ _ us hl => match us, hl with | [_], _ => rfl⟩
  have FLow := fun_mk (st := sLow) lLow cLow kLow
  have qLow : Cl K mg "_law_lowest" fLow _ ["_law_top", "_law_bottom"] := ⟨PySem.W.mg_of X G aLow, kLow, FLow.binds (ps := ["_law_top", "_law_bottom"]) fun _ _ _ _ _ _ us hl => match us, hl with | [_, _], _ => rfl⟩
  have FIs := fun_mk (st := sIs) lIs cIs kIs
  have qIs : Cl K mg "_law_is" fIs _ ["_law_found", "_law_top", "_law_bottom"] := ⟨PySem.W.mg_of X G aIs, kIs, FIs.binds (ps := ["_law_found", "_law_top", "_law_bottom"]) fun _ _ _ _ _ _ us hl => match us, hl with | [_, _, _], _ => rfl⟩
  have FOdd := fun_mk (st := sOdd) lOdd cOdd kOdd
  have qOdd : Cl K mg "_law_odd" fOdd _ ["_law_deck_here"] := ⟨PySem.W.mg_of X G aOdd, kOdd, FOdd.binds (ps := ["_law_deck_here"]) fun _ _ _ _ _ _ us hl => match us, hl with | [_], _ => rfl⟩
  have FMarks := fun_mk (st := sMarks) lMarks cMarks kMarks
  have qMarks : Cl K mg "_law_marks_of" fMarks _ ["_law_e", "_law_right_here"] := ⟨PySem.W.mg_of X G aMarks, kMarks, FMarks.binds (ps := ["_law_e", "_law_right_here"]) fun _ _ _ _ _ _ us hl => match us, hl with | [_, _], _ => rfl⟩
  have FHeard := fun_mk (st := sHeard) lHeard cHeard kHeard
  have qHeard : Cl K mg "_law_heard" fHeard _ ["_law_top", "_law_bottom"] := ⟨PySem.W.mg_of X G aHeard, kHeard, FHeard.binds (ps := ["_law_top", "_law_bottom"]) fun _ _ _ _ _ _ us hl => match us, hl with | [_, _], _ => rfl⟩
  have FRight := fun_mk (st := sRight) lRight cRight kRight
  have qRight : Cl K mg "_law_right" fRight _ ["_law_top", "_law_bottom"] := ⟨PySem.W.mg_of X G aRight, kRight, FRight.binds (ps := ["_law_top", "_law_bottom"]) fun _ _ _ _ _ _ us hl => match us, hl with | [_, _], _ => rfl⟩
  have FPairs := fun_mk (st := sPairs) lPairs cPairs kPairs
  have qPairs : Cl K mg "_law_pairs" fPairs _ ["_law_deck_here"] := ⟨PySem.W.mg_of X G aPairs, kPairs, FPairs.binds (ps := ["_law_deck_here"]) fun _ _ _ _ _ _ us hl => match us, hl with | [_], _ => rfl⟩
  have FLaw := fun_mk (st := sLaw) lLaw cLaw kLaw
  have XNZ : XTxt K mg "NoWhole" NZ bmZ "ZeroDivisionError.__new__" := ⟨PySem.W.mg_of X G g_NZ, xqNZ, xkNZ, xbNZ, xtNZ⟩
  have XNW : XTxt K mg "NoWeight" NW bmV "ValueError.__new__" := ⟨PySem.W.mg_of X G g_NW, xqNW, xkNW, xbNW, xtNW⟩
  have ECNZ : ExcC K NZ := ⟨gaNZ, ggNZ, xbNZ, hdNZ, waNZ, wn, wt, wmNZ⟩
  have ECNW : ExcC K NW := ⟨gaNW, ggNW, xbNW, hdNW, waNW, wn, wt, wmNW⟩
  refine ⟨PySem.W.fnOf "law" "law" (defArgs sLaw) (defBody sLaw) (defScope sLaw) .none kVLaw dcLaw pmLaw anLaw cdLaw ctLaw, fun s v => .of_eq rfl, fun base _ _ => ?_⟩
  have T : WTxt K mg C fWhole := ⟨CLC, nC_top, nC_bottom, PySem.W.mg_of X G aC, PySem.W.mg_of X G aWhole, kWhole, PySem.W.mg_of X G ggcd⟩
  have B : Blt mg := ⟨(PySem.W.mg_none_of X G z_isinstance), (PySem.W.mg_none_of X G z_int), (PySem.W.mg_none_of X G z_bool)⟩
  have M : Mk K C fInit := ⟨mkC, aInit, iInit, kcC⟩
  have bI : Binds K _ ["self", "top", "bottom"] [] := bindsI FInit
  obtain ⟨ds, vd, bI1⟩ := bindsI1 FInit
  have MT : MTxt K mg NW := ⟨ECNW, (PySem.W.mg_none_of X G z_isinstance), ⟨_, PySem.W.mg_of X G g_Xc1, km_c1⟩, ⟨_, PySem.W.mg_of X G g_Xc2, km_c2⟩, ⟨_, PySem.W.mg_of X G g_Xc3, km_c3⟩, ⟨_, PySem.W.mg_of X G g_NW, kit_self⟩, ⟨_, PySem.W.mg_of X G g_Xc5, km_c5⟩, ⟨_, PySem.W.mg_of X G g_Xc6, km_c6⟩, ⟨_, PySem.W.mg_of X G g_Xc7, km_c7⟩, ⟨_, PySem.W.mg_of X G g_Xc8, km_c8⟩, ⟨_, PySem.W.mg_of X G g_Xc9, km_c9⟩, ⟨_, PySem.W.mg_of X G g_Xd1, km_d1⟩, ⟨_, PySem.W.mg_of X G g_Xd2, km_d2⟩, ⟨_, PySem.W.mg_of X G g_Xd3, km_d3⟩, ⟨_, PySem.W.mg_of X G g_Xd4, km_d4⟩, ⟨_, PySem.W.mg_of X G g_Xd5, km_d5⟩, ⟨_, PySem.W.mg_of X G g_Xk, km_k⟩, ⟨_, PySem.W.mg_of X G g_Xw, km_w⟩, (PySem.W.mg_none_of X G z_ValueError), kv⟩
  have GWv := ok_wholeV (P := l.prog) (w := w) (base := base) FWhole B
  have GLWv := ok_lwholeV (P := l.prog) (w := w) (base := base) FLWhole B
  have GW := _root_.K.FnOk.ints GWv
  have GLW := _root_.K.FnOk.ints GLWv
  have GI := ok_init FInit T GW qWhole.b
  have GIV := ok_initV FInit T GWv qWhole.b XNZ XNW
  have GSh := ok_show (P := l.prog) (w := w) (mg := mg) (base := base) FShow (PySem.W.mg_none_of X G z_str) (PySem.W.mg_none_of X G z_reversed) (PySem.W.mg_of X G gBLK) big
  have GR := ok_repr FRepr T qShow GSh
  have GDk := ok_deck (P := l.prog) (w := w) (mg := mg) (base := base) FDeck B
  have GDr := ok_draw (P := l.prog) (w := w) (mg := mg) (base := base) FDraw
  have GDv := ok_div (P := l.prog) (w := w) (mg := mg) (base := base) FDiv (PySem.W.mg_none_of X G z_abs)
  have GTw := ok_two FTwo (PySem.W.mg_none_of X G z_max) (PySem.W.mg_none_of X G z_range) qDraw GDr
  have GLo := ok_low FLow qDiv GDv
  have GIs := ok_is FIs T B NC qLWhole GLW qLow GLo
  have GOd := ok_odd FOdd T (PySem.W.mg_none_of X G z_range) (PySem.W.mg_none_of X G z_len) M GI bI vd bI1 qDraw GDr
  have GMa := ok_marks (P := l.prog) (w := w) (base := base) FMarks MT
  have GHe := ok_heard FHeard T M GIV bI MT ECNZ qMarks GMa (PySem.W.mg_of X G g_NZ) (PySem.W.mg_of X G g_Xk) (PySem.W.mg_none_of X G z_ZeroDivisionError) kz1 kz2 (PySem.W.exm_ref xbNZ hdNZ xtNZ sZZ) (PySem.W.exm_ref xbNZ hdNZ xtNZ sWZ) (PySem.W.exm_ref kx1 kx2 kx3 sWk)
  have GRi := ok_right FRight T NC wi wb aRepr iRepr bRepr GR (PySem.W.mg_none_of X G z_repr) qHeard GHe qLWhole GLWv qIs GIs
  have GPa := ok_pairs (P := l.prog) (w := w) (base := base) FPairs (PySem.W.mg_none_of X G z_range) qDraw GDr qTwo GTw qOdd GOd
  exact ok_law FLaw T M GI bI vd bI1 qDeck GDk qPairs GPa qTwo GTw qRight GRi qIs GIs
theorem walk {l : PySem.W.OpenLaw} {q : Program} {loose : List Str} {XP : (Str → Option Value) → Heap → Prop} {YP : World → Heap → Prop} {d : DefRec} {K : Params → PySem.W.Frag} (hn : l.most = some 63) (hdf : d.params.defaults = [])
    (hY : ∀ (w : World) (h : Heap), YP w h → (K w.params).In h)
    (F : ∀ (w : World) (mg : Str → Option Value) (fa : Addr) (h : Heap), (K w.params).In h → h.Ns mainGlobals mg → mg d.name = some (.ref fa) →
      ∃ fd : FuncData, (∀ (s : Shared) (u : Value), BindsTo s fd ⟨[u], []⟩ [("_law_script", u)]) ∧ ∀ base : Heap, (K w.params).In base → base.Ns mainGlobals mg → FnG l.prog w (K w.params) mg base CX0 24 fa fd ["_law_script"] (spLaw (K w.params))) :
    PySem.W.WalkO q loose XP YP l.row.toRowW d [] (fun f vs => PySem.call f vs) :=
  walk_ofG (n := 63) (k := 24) (x := "_law_script") (CX := fun _ => CX0) (sp := fun w => spLaw (K w.params)) hn (by decide) hdf ⟨rfl, by decide, by decide⟩ hY F (fun _ _ a ns hl _ hS => ⟨a, ns, rfl, hS, hl, fun _ => rfl⟩) fun _ _ _ _ _ z => z
end K
open PySem PySem.W PyProof.Rows
set_option maxRecDepth 100000 in
set_option maxHeartbeats 0 in
theorem PySem.Challenge.cw_casknotes_k03_weights_made_holds : PySem.Challenge.rw_casknotes_k03_weights_made.Holds := by
  w_on; o_law; k_head; (case hw => w_witness2)
  k_fill
  refine K.walk (l := PySem.Challenge.rw_casknotes_k03_weights_made) rfl rfl (fun w h Y => PySem.W.kIn_of Y) ?F
  case F =>
    intro w mg fa h KX G hmg
    refine' K.all_mk KX G hmg ?aC ?pgC ?hdC ?poC ?saC ?mkC ?kcC ?nC_top ?nC_bottom ?waC ?wmC ?wneC ?wn ?wt ?aInit ?iInit ?lInit ?cInit ?kInit ?lDInit ?aRepr ?iRepr ?lRepr ?cRepr ?kRepr ?aShow ?lShow ?cShow ?kShow ?aWhole ?lWhole ?cWhole ?kWhole ?aDeck ?lDeck ?cDeck ?kDeck ?aDraw ?lDraw ?cDraw ?kDraw ?aLWhole ?lLWhole ?cLWhole ?kLWhole ?aDiv ?lDiv ?cDiv ?kDiv ?aTwo ?lTwo ?cTwo ?kTwo ?aLow ?lLow ?cLow ?kLow ?aIs ?lIs ?cIs ?kIs ?aOdd ?lOdd ?cOdd ?kOdd ?aMarks ?lMarks ?cMarks ?kMarks ?aHeard ?lHeard ?cHeard ?kHeard ?aRight ?lRight ?cRight ?kRight ?aPairs ?lPairs ?cPairs ?kPairs ?aLaw ?lLaw ?cLaw ?kLaw ?gBLK ?big ?ggcd ?z_isinstance ?z_int ?z_bool ?z_abs ?z_max ?z_range ?z_str ?z_reversed ?z_repr ?z_len ?z_ValueError ?z_ZeroDivisionError ?g_NZ ?xqNZ ?xkNZ ?xbNZ ?xtNZ ?g_NW ?xqNW ?xkNW ?xbNW ?xtNW ?gaNZ ?ggNZ ?hdNZ ?waNZ ?wmNZ ?gaNW ?ggNW ?hdNW ?waNW ?wmNW ?g_Xc1 ?km_c1 ?g_Xc2 ?km_c2 ?g_Xc3 ?km_c3 ?g_Xc5 ?km_c5 ?g_Xc6 ?km_c6 ?g_Xc7 ?km_c7 ?g_Xc8 ?km_c8 ?g_Xc9 ?km_c9 ?g_Xd1 ?km_d1 ?g_Xd2 ?km_d2 ?g_Xd3 ?km_d3 ?g_Xd4 ?km_d4 ?g_Xd5 ?km_d5 ?g_Xk ?km_k ?g_Xw ?km_w ?kv ?kz1 ?kz2 ?wi ?wb ?kx2 ?kx1 ?kx3 ?sWk ?sWZ ?sZZ
    (case aC => k_is)
    (case pgC => k_is)
    (case hdC => k_is)
    (case poC => k_is)
    (case saC => k_is)
    (case mkC => k_is)
    (case kcC => k_is)
    (case nC_top => k_is)
    (case nC_bottom => k_is)
    (case waC => k_is)
    (case wmC => k_is)
    (case wneC => k_is)
    (case wn => k_is)
    (case wt => k_is)
    (case aInit => k_is)
    (case iInit => k_is)
    (case lInit => k_is)
    (case cInit => k_is)
    (case kInit => k_is)
    (case lDInit => k_is)
    (case aRepr => k_is)
    (case iRepr => k_is)
    (case lRepr => k_is)
    (case cRepr => k_is)
    (case kRepr => k_is)
    (case aShow => k_is)
    (case lShow => k_is)
    (case cShow => k_is)
    (case kShow => k_is)
    (case aWhole => k_is)
    (case lWhole => k_is)
    (case cWhole => k_is)
    (case kWhole => k_is)
    (case aDeck => k_is)
    (case lDeck => k_is)
    (case cDeck => k_is)
    (case kDeck => k_is)
    (case aDraw => k_is)
    (case lDraw => k_is)
    (case cDraw => k_is)
    (case kDraw => k_is)
    (case aLWhole => k_is)
    (case lLWhole => k_is)
    (case cLWhole => k_is)
    (case kLWhole => k_is)
    (case aDiv => k_is)
    (case lDiv => k_is)
    (case cDiv => k_is)
    (case kDiv => k_is)
    (case aTwo => k_is)
    (case lTwo => k_is)
    (case cTwo => k_is)
    (case kTwo => k_is)
    (case aLow => k_is)
    (case lLow => k_is)
    (case cLow => k_is)
    (case kLow => k_is)
    (case aIs => k_is)
    (case lIs => k_is)
    (case cIs => k_is)
    (case kIs => k_is)
    (case aOdd => k_is)
    (case lOdd => k_is)
    (case cOdd => k_is)
    (case kOdd => k_is)
    (case aMarks => k_is)
    (case lMarks => k_is)
    (case cMarks => k_is)
    (case kMarks => k_is)
    (case aHeard => k_is)
    (case lHeard => k_is)
    (case cHeard => k_is)
    (case kHeard => k_is)
    (case aRight => k_is)
    (case lRight => k_is)
    (case cRight => k_is)
    (case kRight => k_is)
    (case aPairs => k_is)
    (case lPairs => k_is)
    (case cPairs => k_is)
    (case kPairs => k_is)
    (case aLaw => k_is)
    (case lLaw => k_is)
    (case cLaw => k_is)
    (case kLaw => k_is)
    (case gBLK => k_is)
    (case big => decide +kernel)
    (case ggcd => k_is)
    (case z_isinstance => k_is)
    (case z_int => k_is)
    (case z_bool => k_is)
    (case z_abs => k_is)
    (case z_max => k_is)
    (case z_range => k_is)
    (case z_str => k_is)
    (case z_reversed => k_is)
    (case z_repr => k_is)
    (case z_len => k_is)
    (case z_ValueError => k_is)
    (case z_ZeroDivisionError => k_is)
    (case g_NZ => k_is)
    (case xqNZ => k_exc)
    (case xkNZ => k_is)
    (case xbNZ => k_is)
    (case xtNZ => k_is)
    (case g_NW => k_is)
    (case xqNW => k_exc)
    (case xkNW => k_is)
    (case xbNW => k_is)
    (case xtNW => k_is)
    (case gaNZ => k_is)
    (case ggNZ => k_is)
    (case hdNZ => k_is)
    (case waNZ => k_is)
    (case wmNZ => k_is)
    (case gaNW => k_is)
    (case ggNW => k_is)
    (case hdNW => k_is)
    (case waNW => k_is)
    (case wmNW => k_is)
    (case g_Xc1 => k_is)
    (case km_c1 => kit_is)
    (case g_Xc2 => k_is)
    (case km_c2 => kit_is)
    (case g_Xc3 => k_is)
    (case km_c3 => kit_is)
    (case g_Xc5 => k_is)
    (case km_c5 => kit_is)
    (case g_Xc6 => k_is)
    (case km_c6 => kit_is)
    (case g_Xc7 => k_is)
    (case km_c7 => kit_is)
    (case g_Xc8 => k_is)
    (case km_c8 => kit_is)
    (case g_Xc9 => k_is)
    (case km_c9 => kit_is)
    (case g_Xd1 => k_is)
    (case km_d1 => kit_is)
    (case g_Xd2 => k_is)
    (case km_d2 => kit_is)
    (case g_Xd3 => k_is)
    (case km_d3 => kit_is)
    (case g_Xd4 => k_is)
    (case km_d4 => kit_is)
    (case g_Xd5 => k_is)
    (case km_d5 => kit_is)
    (case g_Xk => k_is)
    (case km_k => kit_is)
    (case g_Xw => k_is)
    (case km_w => kit_is)
    (case kv => kit_is)
    (case kz1 => kit_is)
    (case kz2 => kit_is)
    (case wi => kit_is)
    (case wb => kit_is)
    (case kx2 => k_is)
    (case kx1 => k_is)
    (case kx3 => k_is)
    (case sWk => k_is)
    (case sWZ => k_is)
    (case sZZ => k_is)
