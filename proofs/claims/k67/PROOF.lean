import PyProof.Rows.All
import Wide.All
import OpenK.AllK
import Wide.FinOn
import HandS.ForMost
import HandS.IsInst
import HandS.Wide
import HandS.Style
import HandS.Walk
import HandS.Zip
import HandS.Flow
import HandS.ForExc
import HandS.ExcInit
import HandS.Property
import HandS.TupSets
import HandS.Ends
import HandS.OwnEq
import HandS.MakeKw
import HandS.MakeKwOnly
import HandS.More
import HandS.Conv
import HandS.SortInts
import PySem.Challenge.RW_orderlycore_k67_whole_cells_lent_and_bac
set_option Elab.async false
set_option linter.all false
set_option maxRecDepth 100000
set_option maxHeartbeats 4000000
namespace Hx
open PySem PySem.Spec PyProof.Rows L2
/-! ### own rules -/
section
variable {X : Cx} {CX : CXT} {k : Nat} {f : Addr} {fd : FuncData} {ps ks : List Str} {sp : Sp} {E : XK} {x : Str} {p pos : Pos} {kws : List Keyword} {tk : TA} {g : List Value → List Value → List Value} {gV : List V → List V → List V}
theorem pe_callKA (F : FnOk X.prog X.w X.K X.mg X.base CX k f fd ps sp) (hr : Room k X.A) (hg : Gl X x) (hm : X.mg x = some (.ref f)) (hk : PySem.W.keepIn X.K (.ref f) = true) (hb : KBinds X.K fd ps ks g gV) (hx : Passes CX X E)
    (hkw : PK X kws tk) (hall : (backToKw pos (keywordEach kws X.env)).all (·.1.isSome) = true := by rfl) (hks : (backToKw pos (keywordEach kws X.env)).filterMap (·.1) = ks := by rfl)
    (hdb : (x == ("__debug__" : Str)) = false := by decide)
    (hpl : ((backTo pos (starEach [] X.env)).any (·.1) || (backToKw pos (keywordEach kws X.env)).any (·.1.isNone)) = false := by rfl) :
    PE X (.Call (.Name x p) [] kws pos) (tCallK sp gV E tNil tk) := by
  refine ⟨fun pins s σ H Q I h => ?_⟩
  refine wpAny_Call_Name_kw (ld_glob I hg hm ?_ hdb)
  refine PySem.W.callWith_KW0 (h₀ := X.base) I.ok.mod.kin hk hall ?_ hpl
  refine thn (hkw.run pos pins s σ H _ I h) fun ws s2 ⟨zs, H2, I2, rz, q2⟩ => ⟨I2.kIn, ?_⟩
  rw [hks]
  exact run_fnk F hr hb hx I2 .nil rz q2
/-- all by keywords, in the parameters' own order -/
def kwG {α : Type} (us ws : List α) : List α := match us with | [] => ws | _ => []
theorem kw_binds {K : PySem.W.Frag} {x qual : Str} {st : Stmt} {f : Addr} {fd : FuncData} {ps : List Str} (F : Fun K x qual st f fd) (h0 : 0 < ps.length)
    (h : ∀ (kV doc pm : Value) (an : Option Addr) (cdv ct : Value) (us : List Value), us.length = ps.length → bindArgs (PySem.W.fnOf x qual (defArgs st) (defBody st) (defScope st) .none kV doc pm an cdv ct) ⟨[], ps.zip us⟩ = pure (ps.zip us)) : KBinds K fd ps ps kwG kwG := by
  obtain ⟨oc, od, kV, doc, pm, an, cdv, ct, osl, rfl, lk, hcd⟩ := F.ex
  refine ⟨fun s us ws _ hl => ?_, fun {vs us zs ws} r1 r2 => ?_⟩
  · cases us with
    | nil => exact .of_eq (h kV doc pm an cdv ct ws hl)
    | cons a t => exact absurd hl (by simp [kwG]; omega)
  · cases r1 with
    | nil => exact r2
    | cons a t => exact .nil
theorem pg_pair {i j : Nat} {x y : Str} {p1 p2 : Pos} {kk : Nat} (hc : X.calm = true) (hN : X.N.Nodup) (hi : X.N[i]? = some x) (hj : X.N[j]? = some y) (hx : Loc X.env.scope x) (hy : Loc X.env.scope y)
    (hf : X.fn x = true ∨ X.env.scope.names.lookup x = some .local := by first | exact .inl rfl | exact .inr rfl | assumption) (hf2 : X.fn y = true ∨ X.env.scope.names.lookup y = some .local := by first | exact .inl rfl | exact .inr rfl | assumption)
    (hn : (assignEach [Expr.Name x p1, .Name y p2] X.env).length = 2 := by rfl) (hst : (assignEach [Expr.Name x p1, .Name y p2] X.env).findIdx? (·.1) = none := by rfl)
    (hs : (assignEach [Expr.Name x p1, .Name y p2] X.env).map (·.2) = assign (.Name x p1) X.env :: (assignEach [Expr.Name y p2] X.env).map (·.2) := by rfl)
    (hs2 : (assignEach [Expr.Name y p2] X.env).map (·.2) = assign (.Name y p2) X.env :: (assignEach [] X.env).map (·.2) := by rfl) :
    PG X (.Tuple [.Name x p1, .Name y p2] kk pos) (gTup X.K 2 (gCons (gName i) (gCons (gName j) gNil))) :=
  pg_tup hc (pgs_cons (pg_name hN hi hx hf) (pgs_cons (pg_name hN hj hy hf2) pgs_nil hs2) hs) hn hst
theorem pe_gint {i : Int} (hg : Gl X x) (hm : ∃ t, X.mg x = some (.int i t)) (hd : (x == ("__debug__" : Str)) = false := by decide) : PE X (.Name x pos) (tC (.int i)) := by
  obtain ⟨t, hm⟩ := hm
  exact pe_glob hg hm ⟨_, rfl⟩ hd
end
theorem call_int1i {X : Cx} : CallR X (.type "int") (fun xs H Q => ∃ i, xs = [.int i] ∧ Q (.int i) H) := fun pins s σ H xs us Q I r h => call_int1 pins s σ H xs us Q I r (.inl h)
theorem call_int1b {X : Cx} : CallR X (.type "int") (fun xs H Q => ∃ k, xs = [.bl k] ∧ Q (.int (if k then 1 else 0)) H) := fun pins s σ H xs us Q I r h => call_int1 pins s σ H xs us Q I r (.inr h)
theorem call_len_list {X : Cx} : CallR X (.builtin "len") (fun xs H Q => ∃ p ys, xs = [.ref p] ∧ SqL X.K H p ys ∧ Q (.int ys.length) H) := fun pins s σ H xs us Q I r ⟨p, ys, e, h, q⟩ => call_len_seq pins s σ H xs us Q I r ⟨p, ys, e, .inl h, q⟩
/-- a goal at which the walker of readings stops -/
structure Stop (p : Prop) : Prop where
  h : p
theorem stop_eq {p : Prop} : Stop p = p := propext ⟨fun q => q.h, fun q => ⟨q⟩⟩
def tForS (wi : TI) (g : TG) (tb : TS) : TS := fun D σ H => wi σ H fun J H1 => Stop (∃ W : Nat → Nat → L2.St → Hp → Prop, (∃ m, W 0 m σ H1) ∧ ∀ i m σ H, W i m σ H →
  (J.stop i H ∧ D.nx σ H) ∨ (J.go i H ∧ ∃ N : L2.St → Hp → Prop, (∀ σ' H', N σ' H' → ∃ m', m' < m ∧ W (i + 1) m' σ' H') ∧ ∀ x H', J.yld i H x H' → g x σ H' fun σ2 H2 => tb { D with nx := N, ct := N, bk := D.nx } σ2 H2))
theorem tForS_eq (wi : TI) (g : TG) (tb : TS) : tForS wi g tb = tFor wi g tb := by
  funext D σ H
  unfold tForS tFor
  simp only [stop_eq]
theorem ps_forS {X : Cx} {tg iter : Expr} {body : List Stmt} {wi : TI} {g : TG} {tb : TS} {pos : Pos} (hp : PassesOwn (model X.prog X.w) X.A X.env X.xe) (hc : X.calm = true) (hi : PI X tg iter wi) (hg : PG X tg g) (hb : PSs X body tb)
    (hs : ∀ x, foldedSetIterable iter X.env x = pure x := by intro _; rfl) : PS X (.For tg iter body [] pos) (tForS wi g tb) := by
  rw [tForS_eq]
  exact ps_for hp hc hi hg hb hs
/-! ### heaps -/
theorem same_upd {H : Hp} {p : Addr} {o : HO} (h : H p = none) : Same H (upd H p o) := fun b u e => by rw [upd_ne (ne_of_none e h)]; exact e
theorem Same.upd {H H1 : Hp} {p : Addr} {o : HO} (s : Same H H1) (h : H1 p = none) : Same H (L2.upd H1 p o) := L2.Same.trans s (same_upd h)
theorem Same.free' {H H1 : Hp} (s : Same H H1) {p : Addr} (h : H1 p = none) : H p = none := L2.Same.free s h
/-- all but a is as it was -/
def But (a : Addr) (H H' : Hp) : Prop := ∀ b o, b ≠ a → H b = some o → H' b = some o
theorem But.refl {a : Addr} (H : Hp) : But a H H := fun _ _ _ h => h
theorem But.trans {a : Addr} {H H1 H2 : Hp} (x : But a H H1) (y : But a H1 H2) : But a H H2 := fun b o n h => y b o n (x b o n h)
theorem But.same {a : Addr} {H H1 : Hp} (x : Same H H1) : But a H H1 := fun b o _ h => x b o h
theorem But.set {a : Addr} {H : Hp} {o : HO} : But a H (upd H a o) := fun b u n h => by rw [upd_ne n]; exact h
theorem But.new {a : Addr} {H H1 : Hp} {p : Addr} {o : HO} (x : But a H H1) (h : H1 p = none) : But a H (upd H1 p o) := x.trans (But.same (same_upd h))
theorem size_le {n : Nat} (h : n ≤ 10000) : n ≤ sizeLine := by rw [sizeLine_eq]; omega
theorem size_lt {n : Nat} (h : n ≤ 10000) : n < sizeLine := by rw [sizeLine_eq]; omega
theorem iteD {c A B : Prop} [Decidable c] (h1 : c → A) (h2 : ¬ c → B) : if decide c = true then A else B := by
  by_cases h : c
  · rw [decide_eq_true h]; exact iteT (h1 h)
  · rw [decide_eq_false h]; exact iteF (h2 h)
theorem iteN {c A B : Prop} [Decidable c] (h1 : ¬ c → A) (h2 : c → B) : if (!decide c) = true then A else B := by
  by_cases h : c
  · rw [decide_eq_true h]; exact iteF (h2 h)
  · rw [decide_eq_false h]; exact iteT (h1 h)
theorem qbl {Q : VK} {b c : Bool} {H : Hp} (k : Q (.bl b) H) (e : c = b) : Q (.bl c) H := e ▸ k
theorem qint {Q : VK} {i j : Int} {H : Hp} (k : Q (.int i) H) (e : j = i) : Q (.int j) H := e ▸ k
theorem same_set {H H1 : Hp} {p : Addr} {o : HO} (s : Same H H1) (n : H p = none) : Same H (upd H1 p o) := fun b u e => by rw [upd_ne (ne_of_none e n)]; exact s b u e
theorem old_upd {H : Hp} {p a : Addr} {o u : HO} (n : H p = none) (h : H a = some u) : upd H p o a = some u := same_upd n _ _ h
theorem SqL.new {K : PySem.W.Frag} {H : Hp} {p a : Addr} {o : HO} {xs : List V} (n : H p = none) (h : SqL K H a xs) : SqL K (upd H p o) a xs := L2.Same.seq (same_upd n) h
theorem tyl_new {K : PySem.W.Frag} {H : Hp} {p a : Addr} {o : HO} {xs : List V} (h : H a = some (.lst xs)) (n : H p = none) : tyV K "list" (.ref a) (upd H p o) := Or.inl ⟨rfl, xs, SqL.of (old_upd n h)⟩
theorem tyl_of {K : PySem.W.Frag} {H : Hp} {a : Addr} {xs : List V} (h : H a = some (.lst xs)) : tyV K "list" (.ref a) H := Or.inl ⟨rfl, xs, SqL.of h⟩
theorem same_at {H H' : Hp} {a : Addr} {u : HO} (s : Same H H') (h : H a = some u) : H' a = some u := s _ _ h
theorem same_trans' {H H1 H2 : Hp} (b : Same H1 H2) (a : Same H H1) : Same H H2 := L2.Same.trans a b
/-! ### comprehensions that keep what stood -/
theorem lc_mapS {K : PySem.W.Frag} {a : Addr} {xs : List V} {g : TG} {te : TE} {vs : List Nat} {σ : L2.St} {H1 : Hp} {D : Addr} {Qd : Hp → Prop} (ys : List V) (ha : SqL K H1 a xs) (hD : H1 D = none) (hl : xs.length = ys.length) (hz : xs.length ≤ 10000)
    (hs : ∀ (i : Nat) (x y : V) (H' : Hp) (Q : VK), xs[i]? = some x → ys[i]? = some y → Same H1 H' → (∀ H'', Same H' H'' → Q y H'') → g x (wipe σ vs) H' fun σ2 H2 => wipe σ2 vs = wipe σ vs ∧ te σ2 H2 Q)
    (hd : ∀ H', Same H1 H' → H' D = some (.lst ys) → Qd H') :
    ∃ W : Nat → Nat → Hp → Prop, (∃ m, W 0 m (upd H1 D (.lst []))) ∧ ∀ i m H, W i m H →
      ((Itl K a).stop i H ∧ Qd H) ∨ ((Itl K a).go i H ∧ ∃ Nx : Hp → Prop, (∀ H', Nx H' → ∃ m', m' < m ∧ W (i + 1) m' H') ∧ ∀ x H', (Itl K a).yld i H x H' → g x (wipe σ vs) H' fun σ2 H2 => wipe σ2 vs = wipe σ vs ∧ tYes σ2 H2 fun b H3 =>
        if b = true then te σ2 H3 fun y H4 => ∃ acc, H4 D = some (.lst acc) ∧ acc.length < sizeLine ∧ Nx (upd H4 D (.lst (acc ++ [y]))) else Nx H3) := by
  refine lc_list (xs := xs) (fun i H => Same H1 H ∧ H D = some (.lst (ys.take i))) ⟨same_upd hD, upd_same⟩ (fun i H _ h => L2.Same.seq h.1 ha) (fun i x H hx h => ?_) (fun H h => hd H h.1 (by rw [h.2, List.take_of_length_le (by omega)]))
  have hi : i < ys.length := by have := (List.getElem?_eq_some_iff.mp hx).1; omega
  refine hs i x ys[i] H _ hx (List.getElem?_eq_getElem hi) h.1 (fun H'' s => ?_)
  refine ⟨ys.take i, s _ _ h.2, size_lt (by simp; omega), same_set (L2.Same.trans h.1 s) hD, ?_⟩
  rw [upd_same, List.take_add_one, List.getElem?_eq_getElem hi]; rfl
theorem lc_mapZ {K : PySem.W.Frag} {a b : Addr} {xs zs : List V} {g : TG} {te : TE} {vs : List Nat} {σ : L2.St} {H1 : Hp} {D : Addr} {Qd : Hp → Prop} (ys : List V) (ha : SqL K H1 a xs) (hb : SqL K H1 b zs) (hD : H1 D = none) (hl : xs.length = ys.length) (hl2 : xs.length = zs.length) (hz : xs.length ≤ 10000)
    (hs : ∀ (i : Nat) (x z y : V) (T : Addr) (H' : Hp) (Q : VK), xs[i]? = some x → zs[i]? = some z → ys[i]? = some y → Same H1 H' → H' T = none → (∀ H'', Same (upd H' T (.tup [x, z])) H'' → Q y H'') → g (.ref T) (wipe σ vs) (upd H' T (.tup [x, z])) fun σ2 H2 => wipe σ2 vs = wipe σ vs ∧ te σ2 H2 Q)
    (hd : ∀ H', Same H1 H' → H' D = some (.lst ys) → Qd H') :
    ∃ W : Nat → Nat → Hp → Prop, (∃ m, W 0 m (upd H1 D (.lst []))) ∧ ∀ i m H, W i m H →
      ((Itz K a b).stop i H ∧ Qd H) ∨ ((Itz K a b).go i H ∧ ∃ Nx : Hp → Prop, (∀ H', Nx H' → ∃ m', m' < m ∧ W (i + 1) m' H') ∧ ∀ x H', (Itz K a b).yld i H x H' → g x (wipe σ vs) H' fun σ2 H2 => wipe σ2 vs = wipe σ vs ∧ tYes σ2 H2 fun b H3 =>
        if b = true then te σ2 H3 fun y H4 => ∃ acc, H4 D = some (.lst acc) ∧ acc.length < sizeLine ∧ Nx (upd H4 D (.lst (acc ++ [y]))) else Nx H3) := by
  refine lc_it (walk_zip (xs := xs) (ys := zs) (n := xs.length) (by omega)) (fun i H => Same H1 H ∧ H D = some (.lst (ys.take i))) ⟨same_upd hD, upd_same⟩ (fun i H _ h => ⟨L2.Same.seq h.1 ha, L2.Same.seq h.1 hb⟩) (fun i x H H' hi h y => ?_) (fun H h => hd H h.1 (by rw [h.2, List.take_of_length_le (by omega)]))
  obtain ⟨T, x', z', rfl, hT, rfl, hx, hz'⟩ := y
  have hi' : i < ys.length := by omega
  refine hs i x' z' ys[i] T H _ hx hz' (List.getElem?_eq_getElem hi') h.1 hT (fun H'' s => ?_)
  refine ⟨ys.take i, s _ _ (old_upd hT h.2), size_lt (by simp; omega), same_set (L2.Same.trans (Same.upd h.1 hT) s) hD, ?_⟩
  rw [upd_same, List.take_add_one, List.getElem?_eq_getElem hi']; rfl
/-! ### two lists of the same ints -/
theorem dp_ints {K : PySem.W.Frag} {H : Hp} : ∀ ns : List Int, DpAll K H (ns.map V.int) (ns.map PyData.int)
  | [] => .nil
  | n :: r => .cons (.int n) (dp_ints r)
theorem sh_ints (ns : List Int) : SeqAt.shaped (.list (ns.map PyData.int)) = true := PySem.W.shaped_ints ns
theorem eqv_ints (ns : List Int) : PyData.eqv (.list (ns.map PyData.int)) (.list (ns.map PyData.int)) = true := SeqAt.eqv_refl _ (SeqAt.canLay_of_shaped (sh_ints ns))
theorem op_eqLI {X : Cx} (hu : X.A.units + 64 < cLine) : OpR X (compareOp .Eq) (fun x y H Q => ∃ (p q : Addr) (ns : List Int), x = .ref p ∧ y = .ref q ∧ SqL X.K H p (ns.map V.int) ∧ SqL X.K H q (ns.map V.int) ∧ Q (.bl true) H) := by
  intro pins s σ H x y v u Q I rx ry ⟨p, q, ns, e1, e2, h1, h2, k⟩
  refine op_eqD hu pins s σ H x y v u Q I rx ry ⟨.list (ns.map PyData.int), .list (ns.map PyData.int), ?_, ?_, ?_, ?_, ?_⟩
  · rw [e1]; exact .lst h1 (dp_ints ns)
  · rw [e2]; exact .lst h2 (dp_ints ns)
  · exact sh_ints ns
  · exact sh_ints ns
  · rw [eqv_ints]; exact k
theorem op_neLI {X : Cx} (hu : X.A.units + 64 < cLine) : OpR X (compareOp .NotEq) (fun x y H Q => ∃ (p q : Addr) (ns : List Int), x = .ref p ∧ y = .ref q ∧ SqL X.K H p (ns.map V.int) ∧ SqL X.K H q (ns.map V.int) ∧ Q (.bl false) H) := by
  intro pins s σ H x y v u Q I rx ry ⟨p, q, ns, e1, e2, h1, h2, k⟩
  refine op_neD hu pins s σ H x y v u Q I rx ry ⟨.list (ns.map PyData.int), .list (ns.map PyData.int), ?_, ?_, ?_, ?_, ?_⟩
  · rw [e1]; exact .lst h1 (dp_ints ns)
  · rw [e2]; exact .lst h2 (dp_ints ns)
  · exact sh_ints ns
  · exact sh_ints ns
  · rw [eqv_ints]; exact k
/-! ### the pot -/
structure Pot (H : Hp) (a : Addr) : Prop where
  ex : ∃ x y : Int, H a = some (.lst [.int x, .int y]) ∧ 0 ≤ x ∧ 0 ≤ y ∧ y < 4294967296
theorem Pot.same {H H' : Hp} {a : Addr} (s : Same H H') (h : Pot H a) : Pot H' a := by
  obtain ⟨x, y, e, r⟩ := h
  exact ⟨x, y, s _ _ e, r⟩
theorem Pot.new {H : Hp} {a p : Addr} {o : HO} (h : Pot H a) (n : H p = none) : Pot (upd H p o) a := h.same (same_upd n)
theorem Pot.ne {H : Hp} {a p : Addr} (h : Pot H a) (n : H p = none) : p ≠ a := by
  obtain ⟨x, y, e, r⟩ := h
  exact fun z => by rw [z, e] at n; cases n
theorem mulw {i j : Int} {a b : Nat} (ha : i.natAbs < 2 ^ a) (hb : j.natAbs < 2 ^ b) (h0 : 0 < a := by decide) (h1 : 0 < b := by decide) (h : a + b ≤ 1000000 := by decide) : CMulW i j := wide_mul ha hb h0 h1 h
theorem mulw64 {i j : Int} (ha : i.natAbs < 18446744073709551616) (hb : j.natAbs < 18446744073709551616) : CMulW i j := wide_mul (a := 64) (b := 64) ha hb (by decide) (by decide) (by decide)
theorem pick_at {xs : List V} {d : Int} (h0 : 0 ≤ d) (h1 : d < xs.length) : ∃ v, atI xs d = some v ∧ v ∈ xs := by
  have hd : d.toNat < xs.length := by omega
  exact ⟨xs[d.toNat], at_of (j := d.toNat) (by omega) (List.getElem?_eq_getElem hd), List.getElem_mem hd⟩
theorem take_fold {α β : Type} {f : β → α → β} {z : β} {l : List α} {i : Nat} {x : α} (h : l[i]? = some x) : (l.take (i + 1)).foldl f z = f ((l.take i).foldl f z) x := by
  rw [List.take_add_one, h, Option.toList_some, List.foldl_append]; rfl
theorem int_get {ns : List Int} {i : Nat} {x : V} (h : (ns.map V.int)[i]? = some x) : ∃ z, x = .int z ∧ ns[i]? = some z := by
  rw [List.getElem?_map] at h
  obtain ⟨z, hz, e⟩ := Option.map_eq_some_iff.mp h
  exact ⟨z, e.symm, hz⟩
/-- called with the pot and how many: a number below that, and the pot is still one -/
def spDraw : Sp := fun vs H Q _ => ∃ (a : Addr) (n : Int), vs = [.ref a, .int n] ∧ Pot H a ∧ 0 < n ∧ n < 1073741824 ∧
  ∀ (d : Int) (H' : Hp), 0 ≤ d → d < n → Pot H' a → But a H H' → Q (.int d) H'
end Hx

set_option Elab.async false
set_option linter.all false
set_option maxRecDepth 100000
set_option maxHeartbeats 4000000
namespace Hx
open PySem PySem.Spec PyProof.Rows L2
/-! ### own rules for objects and errors -/
def kwM {α : Type} (us ws : List α) : List α := match us with | [x] => x :: ws | _ => []
theorem kw_bindsM {K : PySem.W.Frag} {x qual : Str} {st : Stmt} {f : Addr} {fd : FuncData} {ps : List Str} (F : Fun K x qual st f fd) (h0 : 0 < ps.length)
    (h : ∀ (kV doc pm : Value) (an : Option Addr) (cdv ct : Value) (u : Value) (us : List Value), us.length = ps.tail.length → bindArgs (PySem.W.fnOf x qual (defArgs st) (defBody st) (defScope st) .none kV doc pm an cdv ct) ⟨[u], ps.tail.zip us⟩ = pure (ps.zip (u :: us))) : KBinds K fd ps ps.tail kwM kwM := by
  obtain ⟨oc, od, kV, doc, pm, an, cdv, ct, osl, rfl, lk, hcd⟩ := F.ex
  refine ⟨fun s us ws _ hl => ?_, fun {vs us zs ws} r1 r2 => ?_⟩
  · match us, hl with
    | [], hl => exact absurd hl (by simp [kwM]; omega)
    | [u], hl => exact .of_eq (h kV doc pm an cdv ct u ws (by simp [kwM] at hl ⊢; omega))
    | _ :: _ :: _, hl => exact absurd hl (by simp [kwM]; omega)
  · cases r1 with
    | nil => exact .nil
    | cons a t =>
      cases t with
      | nil => exact .cons a r2
      | cons b t => exact .nil
section
variable {X : Cx} {CX : CXT} {k : Nat} {f C : Addr} {fd : FuncData} {ps ks : List Str} {sp : Sp} {E : L2.St → XK} {E1 : XK} {x m : Str} {p pos apos : Pos} {e o : Expr} {es : List Expr} {ta : TE} {t tk : TA} {kws : List Keyword} {g : List Value → List Value → List Value} {gV : List V → List V → List V}
def tMethA (C : Addr) (m : Str) (sp : Sp) (E : L2.St → XK) (ta : TE) (t : TA) : TE := fun σ H Q => ta σ H fun x H1 => ∃ a dx fs, x = .ref a ∧ H1 a = some (.ins C dx fs) ∧ fs.lookup m = none ∧ t σ H1 fun vs H2 => sp (x :: vs) H2 Q (E σ)
/-- o.m(e, ..) that may raise, within a try -/
theorem pe_methA {E : L2.St → XK} {pl : Sem Bool} (he : PE X o ta) (c : Cls X.K C) (hm : Meth X.K C m f) (F : FnOk X.prog X.w X.K X.mg X.base CX k f fd ps sp) (hr : Room k X.A) (hb : Binds X.K fd ps []) (hx : ∀ σ, PassesAt CX X σ (E σ)) (ha : PA X (e :: es) t)
    (hst : starEach (e :: es) X.env = (false, eval e X.env) :: starEach es X.env := by rfl) (hpl : (backTo pos (starEach es X.env)).any (·.1) = false := by rfl)
    (ht : eval (.Call (.Attribute o m apos) (e :: es) [] pos) X.env = (do
      let ov ← eval o X.env
      standAt apos.atName
      let (f, first) ← holding [ov] (getMethod ov m pl)
      callWith pos f first (backTo pos (starEach (e :: es) X.env)) (backToKw pos (keywordEach [] X.env))) := by rfl) :
    PE X (.Call (.Attribute o m apos) (e :: es) [] pos) (tMethA C m sp E ta t) := by
  refine ⟨fun pins s σ H Q I h => ?_⟩
  refine PySem.W.methodCall_KW (pl := pl) (thn (he.run pins s σ H _ I h) fun u s1 ⟨x, H1, I1, rx, a, dx, fs, ex, ea, l, q⟩ => ?_) ht
  subst ex
  obtain rfl : u = Value.ref a := rx
  refine getmeth_ok I1 ea c hm l ?_
  refine PySem.W.callWith_K (first := [.ref a]) (h₀ := X.base) I.ok.mod.kin hm.kp (thn (ha.run pos pins s1 σ H1 _ I1 q) fun us s2 ⟨vs, H2, I2, r, q2⟩ => ⟨I2.kIn, ?_⟩) hst hpl
  exact run_fnS (us := .ref a :: us) (vs := .ref a :: vs) F hr hb (hx σ) I2 (.cons rfl r) q2
def tMethK (C : Addr) (m : Str) (sp : Sp) (gV : List V → List V → List V) (E : XK) (ta : TE) (tk : TA) : TE := fun σ H Q => ta σ H fun x H1 => ∃ a dx fs, x = .ref a ∧ H1 a = some (.ins C dx fs) ∧ fs.lookup m = none ∧ tk σ H1 fun zs H2 => sp (gV [x] zs) H2 Q E
/-- o.m(k=e, ..) -/
theorem pe_methKA {pl : Sem Bool} (he : PE X o ta) (c : Cls X.K C) (hm : Meth X.K C m f) (F : FnOk X.prog X.w X.K X.mg X.base CX k f fd ps sp) (hr : Room k X.A) (hb : KBinds X.K fd ps ks g gV) (hx : Passes CX X E1)
    (hkw : PK X kws tk) (hall : (backToKw pos (keywordEach kws X.env)).all (·.1.isSome) = true := by rfl) (hks : (backToKw pos (keywordEach kws X.env)).filterMap (·.1) = ks := by rfl)
    (hpl : ((backTo pos (starEach [] X.env)).any (·.1) || (backToKw pos (keywordEach kws X.env)).any (·.1.isNone)) = false := by rfl)
    (ht : eval (.Call (.Attribute o m apos) [] kws pos) X.env = (do
      let ov ← eval o X.env
      standAt apos.atName
      let (f, first) ← holding [ov] (getMethod ov m pl)
      callWith pos f first (backTo pos (starEach [] X.env)) (backToKw pos (keywordEach kws X.env))) := by rfl) :
    PE X (.Call (.Attribute o m apos) [] kws pos) (tMethK C m sp gV E1 ta tk) := by
  refine ⟨fun pins s σ H Q I h => ?_⟩
  refine PySem.W.methodCall_KW (pl := pl) (thn (he.run pins s σ H _ I h) fun u s1 ⟨x, H1, I1, rx, a, dx, fs, ex, ea, l, q⟩ => ?_) ht
  subst ex
  obtain rfl : u = Value.ref a := rx
  refine getmeth_ok I1 ea c hm l ?_
  refine PySem.W.callWith_KW0 (first := [.ref a]) (h₀ := X.base) I.ok.mod.kin hm.kp hall ?_ hpl
  refine thn (hkw.run pos pins s1 σ H1 _ I1 q) fun ws s2 ⟨zs, H2, I2, rz, q2⟩ => ⟨I2.kIn, ?_⟩
  rw [hks]
  exact run_fnk (us := [.ref a]) (vs := [.ref a]) F hr hb hx I2 (.cons rfl .nil) rz q2
theorem PI.or {tg iter : Expr} {w1 w2 : TI} (h1 : PI X tg iter w1) (h2 : PI X tg iter w2) : PI X tg iter (fun σ H R => w1 σ H R ∨ w2 σ H R) := ⟨fun pins s σ H R I h => h.elim (h1.run pins s σ H R I) (h2.run pins s σ H R I)⟩
end
theorem exm_self {K : PySem.W.Frag} {S : Addr} (h1 : PySem.W.subIn K (.ref S) (.type "BaseException") = some true) (h2 : PySem.W.isClsIn K S = true) (h3 : PySem.W.typeIn K (.ref S) = some (.type "type")) (h4 : PySem.W.subIn K (.ref S) (.ref S) = some true) :
    PySem.W.exmOne K (.ref S) (.ref S) = some true := by
  have e1 : (PySem.W.subIn K (.ref S) (.type "BaseException") == some true) = true := by rw [h1] <;> rfl
  have e2 : ((PySem.W.clsIn K S).isSome && PySem.W.typeIn K (.ref S) == some (.type "type")) = true := by
    have h2' : (PySem.W.clsIn K S).isSome = true := h2
    rw [h2', h3] <;> rfl
  show (if (PySem.W.subIn K (.ref S) (.type "BaseException") == some true) = true then (if ((PySem.W.clsIn K S).isSome && PySem.W.typeIn K (.ref S) == some (.type "type")) = true then PySem.W.subIn K (.ref S) (.ref S) else none) else none) = some true
  rw [if_pos e1, if_pos e2]
  exact h4
def tStop (t : TS) : TS := fun D σ H => t { D with nx := fun σ H => Stop (D.nx σ H) } σ H
theorem ps_stop {X : Cx} {st : Stmt} {t : TS} (h : PS X st t) : PS X st (tStop t) := by
  have e : tStop t = t := by
    funext D σ H
    unfold tStop
    simp only [stop_eq]
  rw [e]
  exact h
theorem lc_mapT {K : PySem.W.Frag} {a : Addr} {xs : List V} {g : TG} {te : TE} {vs : List Nat} {σ : L2.St} {H1 : Hp} {D : Addr} {Qd : Hp → Prop} (ys : List V) (ha : SqT K H1 a xs) (hD : H1 D = none) (hl : xs.length = ys.length) (hz : xs.length ≤ 10000)
    (hs : ∀ (i : Nat) (x y : V) (H' : Hp) (Q : VK), xs[i]? = some x → ys[i]? = some y → Same H1 H' → (∀ H'', Same H' H'' → Q y H'') → g x (wipe σ vs) H' fun σ2 H2 => wipe σ2 vs = wipe σ vs ∧ te σ2 H2 Q)
    (hd : ∀ H', Same H1 H' → H' D = some (.lst ys) → Qd H') :
    ∃ W : Nat → Nat → Hp → Prop, (∃ m, W 0 m (upd H1 D (.lst []))) ∧ ∀ i m H, W i m H →
      ((Itt K a).stop i H ∧ Qd H) ∨ ((Itt K a).go i H ∧ ∃ Nx : Hp → Prop, (∀ H', Nx H' → ∃ m', m' < m ∧ W (i + 1) m' H') ∧ ∀ x H', (Itt K a).yld i H x H' → g x (wipe σ vs) H' fun σ2 H2 => wipe σ2 vs = wipe σ vs ∧ tYes σ2 H2 fun b H3 =>
        if b = true then te σ2 H3 fun y H4 => ∃ acc, H4 D = some (.lst acc) ∧ acc.length < sizeLine ∧ Nx (upd H4 D (.lst (acc ++ [y]))) else Nx H3) := by
  refine lc_tup (xs := xs) (fun i H => Same H1 H ∧ H D = some (.lst (ys.take i))) ⟨same_upd hD, upd_same⟩ (fun i H _ h => ha.elim (fun r => r.elim (fun e => .inl (.inl (h.1 _ _ e))) (fun ⟨o, e⟩ => .inl (.inr ⟨o, h.1 _ _ e⟩))) .inr) (fun i x H hx h => ?_) (fun H h => hd H h.1 (by rw [h.2, List.take_of_length_le (by omega)]))
  have hi : i < ys.length := by have := (List.getElem?_eq_some_iff.mp hx).1; omega
  refine hs i x ys[i] H _ hx (List.getElem?_eq_getElem hi) h.1 (fun H'' s => ?_)
  refine ⟨ys.take i, s _ _ h.2, size_lt (by simp; omega), same_set (L2.Same.trans h.1 s) hD, ?_⟩
  rw [upd_same, List.take_add_one, List.getElem?_eq_getElem hi]; rfl
/-! ### two things of the same data -/
def FlatD (n : Nat) (d : PyData) : Prop := d.canLay0 = true ∧ d.depth ≤ n
theorem flat_all {n : Nat} : ∀ ds : List PyData, (∀ d ∈ ds, FlatD n d) → PyData.canLayAll0 ds = true ∧ PyData.depthAll ds ≤ n
  | [], _ => by simp [PyData.canLayAll0, PyData.depthAll]
  | d :: r, h => by
    have i := flat_all r fun x hx => h x (List.mem_cons_of_mem _ hx)
    have j := h d List.mem_cons_self
    unfold FlatD at j
    simp only [PyData.canLayAll0, PyData.depthAll, j.1, i.1, Bool.and_self, true_and]
    omega
theorem flat_list {n : Nat} {ds : List PyData} (h : ∀ d ∈ ds, FlatD n d) : FlatD (n + 1) (.list ds) := by
  have i := flat_all ds h
  exact ⟨by simp only [PyData.canLay0]; exact i.1, by simp only [PyData.depth]; omega⟩
theorem flat_tup {n : Nat} {ds : List PyData} (h : ∀ d ∈ ds, FlatD n d) : FlatD (n + 1) (.tuple ds) := by
  have i := flat_all ds h
  exact ⟨by simp only [PyData.canLay0]; exact i.1, by simp only [PyData.depth]; omega⟩
theorem flat_int (n : Nat) (i : Int) : FlatD n (.int i) := ⟨by simp [PyData.canLay0], by simp [PyData.depth]⟩
theorem flat_sh {n : Nat} {d : PyData} (h : FlatD n d) (hn : n ≤ 64 := by decide) : SeqAt.shaped d = true := by
  show (PyData.canLay0 d && decide (PyData.depth d ≤ 64)) = true
  rw [Bool.and_eq_true]
  exact ⟨h.1, decide_eq_true (Nat.le_trans h.2 hn)⟩
theorem op_eqS {X : Cx} (hu : X.A.units + 64 < cLine) : OpR X (compareOp .Eq) (fun x y H Q => ∃ d, Dp X.K H x d ∧ Dp X.K H y d ∧ SeqAt.shaped d = true ∧ Q (.bl true) H) := by
  intro pins s σ H x y v u Q I rx ry ⟨d, h1, h2, hs, k⟩
  refine op_eqD hu pins s σ H x y v u Q I rx ry ⟨d, d, h1, h2, hs, hs, ?_⟩
  rw [SeqAt.eqv_refl d (SeqAt.canLay_of_shaped hs)]; exact k
theorem op_neS {X : Cx} (hu : X.A.units + 64 < cLine) : OpR X (compareOp .NotEq) (fun x y H Q => ∃ d, Dp X.K H x d ∧ Dp X.K H y d ∧ SeqAt.shaped d = true ∧ Q (.bl false) H) := by
  intro pins s σ H x y v u Q I rx ry ⟨d, h1, h2, hs, k⟩
  refine op_neD hu pins s σ H x y v u Q I rx ry ⟨d, d, h1, h2, hs, hs, ?_⟩
  rw [SeqAt.eqv_refl d (SeqAt.canLay_of_shaped hs)]; exact k
/-- the only error's __init__: self.value = value -/
def spEI (C : Addr) : Sp := fun vs H Q _ => ∃ (a : Addr) (v : V), vs = [.ref a, v] ∧ H a = some (exo a C none) ∧ ∀ dx, H dx = none → dx ≠ a → Q .non (upd (upd H dx (exd dx [("value", v)])) a (exo a C (some dx)))
theorem ei_same {H : Hp} {a dx C : Addr} {fs : List (Str × V)} {o u : HO} (ha : H a = none) (hd : upd H a o dx = none) (ne : dx ≠ a) :
    Same H (upd (del (upd (upd (upd H a o) dx u) a (exo a C (some dx))) a) dx (.xd fs)) := fun b v e => by
  have n1 : b ≠ a := ne_of_none e ha
  have n2 : b ≠ dx := by
    intro z
    rw [z] at e
    rw [upd_ne ne] at hd
    rw [hd] at e
    cases e
  rw [upd_ne n2, del_ne n1, upd_ne n1, upd_ne n2, upd_ne n1]
  exact e
end Hx

set_option Elab.async false
set_option linter.all false
set_option maxRecDepth 100000
set_option maxHeartbeats 4000000
namespace Hx
open PySem PySem.Spec PyProof.Rows L2
/-! ### promises of defs under which no repr is under way -/
/-- as FnOk, for calls around which nothing is being written out -/
structure FnG (P : Program) (w : World) (K : PySem.W.Frag) (mg : Str → Option Value) (base : Heap) (k : Nat) (f : Addr) (fd : FuncData) (ps : List Str) (sp : Sp) : Prop where
  len : ∀ vs H Q E, sp vs H Q E → vs.length = ps.length
  run : ∀ (A : Around) (outer : List Env) (s : Shared) (H : Hp) (args : Args) (us : List Value) (vs : List V) (Q : VK) (E : XK), A.guards = some [] → Room k A → Env0 P w K mg base A outer s H → BindsTo s fd args (ps.zip us) → Vals vs us → sp vs H Q E →
    codeAny (model P w) A (.call (.ref f) args) (CR CX0 outer P w H s Q E) s
theorem FnG.mono {P : Program} {w : World} {K : PySem.W.Frag} {mg : Str → Option Value} {base : Heap} {j k : Nat} {f : Addr} {fd : FuncData} {ps : List Str} {sp : Sp} (F : FnG P w K mg base j f fd ps sp) (h : j ≤ k) : FnG P w K mg base k f fd ps sp :=
  ⟨F.len, fun A o s H a us vs Q E g r => F.run A o s H a us vs Q E g (r.mono h)⟩
theorem fnG {P : Program} {w : World} {K : PySem.W.Frag} {mg : Str → Option Value} {base : Heap} {x qual : Str} {st : Stmt} {f : Addr} {fd : FuncData} {N ps : List Str} {k : Nat} {sp : Sp} (F : Fun K x qual st f fd) (S : FnScope N ps (defScope st)) (len : ∀ vs H Q E, sp vs H Q E → vs.length = ps.length)
    (hbody : ∀ (cdv : Value) (A : Around) (outer : List Env) (s : Shared) (H : Hp) (vs : List V) (Q : VK) (E : XK), Room k (A.deeper (envOfC qual (defScope st) s.heap.objs.size f cdv)) → (A.deeper (envOfC qual (defScope st) s.heap.objs.size f cdv)).guards = some [] → sp vs H Q E →
      ∃ t, PSs (cxOf CX0 P w K mg base N qual (defScope st) f cdv A outer s H E).nox (defBody st) t ∧ t { nx := fun _ H' => Q .non H', rt := Q } (start N vs) H) : FnG P w K mg base (k + 1) f fd ps sp := by
  obtain ⟨oc, od, kV, doc, pm, an, cdv, ct, osl, rfl, lk, hcd⟩ := F.ex
  constructor
  · exact len
  intro A outer s H args us vs Q E hg hr e0 hb r hsp
  have old := fun b o e => (e0.bs b o e).1
  have KX := e0.mod.kin.keeps old
  have lim := e0.mod.nolimit.keeps old
  apply codeAny_call_function hr.depth (KX _ _ lk) rfl S.co S.gen rfl (PySem.W.codeRec_of KX hcd)
  apply hb
  apply wpAny_newFunctionEnv_cells S.kind
  · intro y hy
    exact (S.par y.1 (List.of_mem_zip hy).1).imp id fun q => ⟨q, PySem.W.cellsFrom_some _ _ _ (.inl q)⟩
  intro env he s1 x
  subst he
  refine ⟨lim.keeps x.toInCall.keep, codeAny_func ?_⟩
  obtain ⟨t, ht, hq⟩ := hbody cdv A outer s H vs Q E (hr.deeper _) hg hsp
  have I := inv_start (CX := CX0) (E := E) (base := base) S hr.hd e0 (len _ _ _ _ hsp) r x
  refine wpAny_mono (ht.nox.run [] s1 _ H _ I hq) (fun fl s' hs => ?_) fun e s' hs => hs
  match fl, hs with
  | .ret u, ⟨v, _, H', J, rv, q⟩ => exact ⟨v, H', J.os, J.bare, J.base, J.hok, rv, q⟩
  | .next, ⟨_, H', J, q⟩ => exact ⟨V.non, H', J.os, J.bare, J.base, J.hok, rfl, q⟩
  | .brk, ⟨_, _, _, q⟩ => exact q.elim
  | .cont, ⟨_, _, _, q⟩ => exact q.elim
section
variable {X : Cx} {k : Nat} {f : Addr} {fd : FuncData} {ps : List Str} {sp : Sp} {E : XK} {x : Str} {p pos : Pos} {e : Expr} {es : List Expr} {t : TA}
/-- f(e, ..) of such a def -/
theorem pe_callG (hu : X.A.guards = some []) (F : FnG X.prog X.w X.K X.mg X.base k f fd ps sp) (hr : Room k X.A) (hg : Gl X x) (hm : X.mg x = some (.ref f)) (hk : PySem.W.keepIn X.K (.ref f) = true) (hb : Binds X.K fd ps [])
    (ha : PA X (e :: es) t) (hdb : (x == ("__debug__" : Str)) = false := by decide) (he : starEach (e :: es) X.env = (false, eval e X.env) :: starEach es X.env := by rfl) (hpl : (backTo pos (starEach es X.env)).any (·.1) = false := by rfl) :
    PE X (.Call (.Name x p) (e :: es) [] pos) (tCall sp [] E t) := by
  constructor
  intro pins s σ H Q I h
  apply wpAny_Call_Name_kw (ld_glob I hg hm ?_ hdb)
  refine PySem.W.callWith_K (h₀ := X.base) I.ok.mod.kin hk (thn (ha.run pos pins s σ H _ I h) fun us s1 ⟨vs, H1, I1, r, q⟩ => ⟨I1.kIn, ?_⟩) he hpl
  have q : sp (vs ++ []) H1 Q E := q
  rw [List.append_nil] at q
  have hl : us.length = ps.length := by rw [← r.length]; exact F.len _ _ _ _ q
  have b := hb s1 us I1.kIn (by rw [List.append_nil]; exact hl)
  rw [List.append_nil] at b
  refine wpAny_call (codeAny_mono (F.run X.A X.stack s1 H1 ⟨us, []⟩ us vs Q E hu hr I1.env0 b r q) fun r s' hq => ?_)
  match r, hq with
  | .ok (.ret u), hq => exact I1.after hq
  | .error e, hq => exact False.elim hq
  | .ok .next, hq => exact False.elim hq
  | .ok .brk, hq => exact False.elim hq
  | .ok .cont, hq => exact False.elim hq
/-- repr of a list, a tuple, of things that show -/
theorem call_reprG (hg : X.A.guards = some []) (hr : Room 0 X.A) : CallR X (.builtin "repr") (fun xs H Q => ∃ (a : Addr) (d : PyData), xs = [.ref a] ∧ Dp X.K H (.ref a) d ∧ d.showable = true ∧ d.hasDict = false ∧ d.depth ≤ 64 ∧ d.shown.length ≤ sizeLine ∧ Q (.str d.shown) H) := by
  intro pins s σ H xs us Q I r h
  obtain ⟨a, d, rfl, hd, hs, hn, hp, hz, q⟩ := h
  rw [Vals.ref1 r]
  obtain ⟨as, hR⟩ := Dp.reads I d _ (.ref a) hd rfl
  have hu := hr.un
  exact repr_of_reads' hR hs (fun z => by rw [hn] at z; cases z) hg (by omega) (fun _ _ e => e) (fun h' u tk hk => ⟨.str _, H, I.kept hk, ⟨_, rfl⟩, q⟩) hz
end
theorem call_repr_bl {X : Cx} : CallR X (.builtin "repr") (fun xs H Q => ∃ b : Bool, xs = [.bl b] ∧ Q (.str (if b then "True" else "False")) H) := by
  intro pins s σ H xs us Q I r h
  obtain ⟨b, rfl, q⟩ := h
  cases r with
  | cons ru rn =>
    cases rn
    cases ru
    exact PySem.P.repr_of_bool ⟨.str _, H, I.tok _, ⟨_, rfl⟩, q⟩
/-! ### the head's call of such a law -/
theorem law_callG {P : Program} {w : World} {K : PySem.W.Frag} {mg mb : Str → Option Value} {k : Nat} {fa a : Addr} {fd : FuncData} {x : Str} {sp : Sp} {s : Shared} {vs : List Value} {ns : List Int}
    (KX : K.In s.heap) (hns : s.heap.Ns mainGlobals mg) (hb : s.heap.Ns builtinsNs mb) (hbb : ∀ x : Str, x ≠ "__name__" → mb x = bootBuiltins x) (hlim : s.heap.NoLimit) (hg : s.gens = #[])
    (ha : s.heap.get? a = some { cls := .type "list", data := .seq vs.toArray }) (hi : IntsAre vs ns) (hl : ns.length ≤ sizeLine) (hr : Room k callerA)
    (F : ∀ base : Heap, K.In base → base.Ns mainGlobals mg → FnG P w K mg base k fa fd [x] sp) (hbind : ∀ (s : Shared) (u : Value), BindsTo s fd ⟨[u], []⟩ [(x, u)])
    (hsp : ∀ H : Hp, Only H → SqL K H a (ns.map V.int) → sp [.ref a] H (fun v _ => v = .bl true) fun _ _ _ => False) :
    codeAny (model P w) callerA (.call (.ref fa) ⟨[.ref a], []⟩) (fun r s' => r = .ok (.ret (.bool true)) ∧ OldK s.heap s'.heap ∧ s'.os = s.os ∧ AllBare s'.gens) s := by
  let fz : HO := .frz { cls := .type "list", data := .seq vs.toArray } (.lst (ns.map V.int))
  let H : Hp := fun b => if b = a ∧ K.lookup a = none then some fz else none
  have rv := vals_ints hi
  have hH : ∀ {b : Addr} {u : HO}, H b = some u → b = a ∧ K.lookup a = none ∧ u = fz := fun {b u} z => by
    by_cases q : b = a ∧ K.lookup a = none
    · have z' := (if_pos q).symm.trans z
      exact ⟨q.1, q.2, (Option.some.inj z').symm⟩
    · have z' := (if_neg q).symm.trans z
      cases z'
  have hO : Only H := fun b => by
    by_cases q : b = a ∧ K.lookup a = none
    · exact .inr ⟨_, _, if_pos q⟩
    · exact .inl (if_neg q)
  have hok : HOk P w H s.heap := fun b u z => by
    obtain ⟨rfl, _, rfl⟩ := hH z
    exact ⟨ha, by rw [List.length_map]; exact hl, vs, _, rv, ha⟩
  have hS : SqL K H a (ns.map V.int) := by
    cases hk : K.lookup a with
    | some o =>
      have e := KX a o hk
      rw [ha] at e
      cases e
      exact .inr ⟨_, vs.toArray, _, hk, rfl, rfl, rfl, by rw [List.size_toArray, hi.length]; exact hl, by simpa using rv⟩
    | none => exact .inl (.inr ⟨_, if_pos ⟨rfl, hk⟩⟩)
  have hid : ∀ {b : Addr} {o : Obj}, s.heap.get? b = some o → (b = a → K.lookup a = none → False) → (hidT s.heap H).get? b = some o := fun {b o} e n => hidT_get e (by
    cases q : H b with
    | none => rfl
    | some u => exact (n (hH q).1 (hH q).2.1).elim)
  have nsK : ∀ {b : Addr} {m : Str → Option Value}, s.heap.Ns b m → (hidT s.heap H).Ns b m := fun {b m} ⟨o, es, ep, e, d, r⟩ => ⟨o, es, ep, hid e (fun z _ => by
    subst z
    rw [ha] at e
    cases e
    have d' : Data.seq vs.toArray _ = Data.dict es ep := d
    cases d'), d, r⟩
  have hKb : K.In (hidT s.heap H) := fun b o e => hid (KX b o e) fun z n => by
    subst z
    rw [n] at e
    cases e
  have e0 : Env0 P w K mg (hidT s.heap H) callerA [] s H := ⟨rfl, ⟨hKb, nsK hns, ⟨mb, nsK hb, hbb⟩, hlim.elim fun mc h => ⟨mc, nsK h.1, h.2⟩⟩, fun b o e => of_hidT e, Nat.le_of_eq (hidT_size _ _), trivial, fun b hb => absurd hb List.not_mem_nil, hok, .of_eq hg⟩
  refine codeAny_mono ((F _ hKb (nsK hns)).run callerA [] s H ⟨[.ref a], []⟩ [.ref a] [.ref a] _ _ rfl hr e0 (hbind s (.ref a)) (.cons rfl .nil) (hsp H hO hS)) fun r s' h => ?_
  match r, h with
  | .error e, h => exact h.elim
  | .ok .next, h => exact False.elim h
  | .ok .brk, h => exact False.elim h
  | .ok .cont, h => exact False.elim h
  | .ok (.ret u), ⟨v, H', os, bare, un, hok', r', q⟩ =>
    obtain rfl : v = .bl true := q
    obtain rfl : u = Value.bool true := r'
    refine ⟨rfl, OldK.of_keep fun b o e => ?_, os, bare⟩
    cases q : H b with
    | none => exact un.keep b o e q (fun z => List.not_mem_nil z) List.not_mem_nil
    | some u =>
      obtain ⟨rfl, _, rfl⟩ := hH q
      obtain ⟨e1, _⟩ := hok _ _ q
      obtain ⟨e2, _⟩ := hok' _ _ (un.frzs _ _ _ q)
      rw [e] at e1
      cases e1
      exact e2
theorem walk_ofG {l : PySem.W.OpenLaw} {n k : Nat} {q : Program} {loose : List Str} {XP : (Str → Option Value) → Heap → Prop} {YP : World → Heap → Prop} {d : DefRec} {K : Params → PySem.W.Frag} {sp : World → Sp} {x : Str}
    (hn : l.most = some n) (hn2 : n ≤ sizeLine) (hdf : d.params.defaults = []) (hr : Room k callerA)
    (hY : ∀ (w : World) (h : Heap), YP w h → (K w.params).In h)
    (F : ∀ (w : World) (mg : Str → Option Value) (fa : Addr) (h : Heap), (K w.params).In h → h.Ns mainGlobals mg → mg d.name = some (.ref fa) →
      ∃ fd : FuncData, (∀ (s : Shared) (u : Value), BindsTo s fd ⟨[u], []⟩ [(x, u)]) ∧ ∀ base : Heap, (K w.params).In base → base.Ns mainGlobals mg → FnG l.prog w (K w.params) mg base k fa fd [x] (sp w))
    (hsp : ∀ (w : World) (H : Hp) (a : Addr) (ns : List Int), ns.length ≤ n → Only H → SqL (K w.params) H a (ns.map V.int) → sp w [.ref a] H (fun v _ => v = .bl true) fun _ _ _ => False) :
    PySem.W.WalkO q loose XP YP l.row.toRowW d [] (fun f vs => PySem.call f vs) := by
  apply Att.attach_call hn hdf
  intro w s₀ s₁ mg mb fa o pm cd doc a vs ns G Y ho hd hcd hmg hobj hints hlen hg
  obtain ⟨fd, hb, hF⟩ := F w mg fa _ (hY w _ Y) G.T.g hmg
  exact law_callG (hY w _ Y) G.T.g G.T.b G.T.builtins G.T.nolimit hg hobj hints (Nat.le_trans hlen hn2) hr hF hb fun H hO hS => hsp w H a ns hlen hO hS
end Hx

set_option Elab.async false
set_option linter.all false
set_option maxRecDepth 100000
set_option maxHeartbeats 4000000
namespace Hx
open PySem PySem.Spec PyProof.Rows L2
/-- x == y by the class's own ==, whatever it answers -/
theorem op_eqOwn {X : Cx} {n : Nat} {C f : Addr} {fd : FuncData} {ps : List Str} {sp : Sp} (F : FnOk X.prog X.w X.K X.mg X.base CX0 n f fd ps sp) (hr : Room n X.A)
    (hs : PySem.W.findIn X.K (.ref C) "__eq__" = some (some (.ref f))) (hf : PySem.W.isFn X.K (.ref f) = true) (hb : Binds X.K fd ps []) :
    OpR X (compareOp .Eq) (fun x y H Q => ∃ a b dx dy fs gs, x = .ref a ∧ y = .ref b ∧ H a = some (.ins C dx fs) ∧ H b = some (.ins C dy gs) ∧ sp [.ref a, .ref b] H (fun v H' => ∃ c, v = .bl c ∧ Q (.bl c) H') (fun _ _ _ => False)) := by
  intro pins s σ H x y v u Q I rx ry h
  obtain ⟨a, b, dx, dy, fs, gs, rfl, rfl, ha, hb', hsp⟩ := h
  cases rx
  cases ry
  obtain ⟨mA, J, _⟩ := ins_get I.hok ha
  obtain ⟨mB, J', _⟩ := ins_get I.hok hb'
  obtain ⟨od, J, _⟩ := J.look
  obtain ⟨od', J', _⟩ := J'.look
  obtain ⟨m, hF⟩ := I.fr
  have hu := hr.un
  refine PySem.W.cmp_K (op := .Eq) (tb := .ref C) (by omega) hF I.ok.mod.kin J J'.type (by simp [PySem.W.notFirst]) hs hf ?_
  have hl := F.len _ _ _ _ hsp
  have r2 : Vals [V.ref a, V.ref b] [Value.ref a, Value.ref b] := .cons rfl (.cons rfl .nil)
  have hB : BindsTo s fd ⟨[.ref a, .ref b], []⟩ (ps.zip [.ref a, .ref b]) := by
    have := hb s [.ref a, .ref b] I.kIn (by simpa using hl)
    simpa using this
  refine wpAny_call (codeAny_mono (F.run X.A X.stack s H ⟨[.ref a, .ref b], []⟩ [.ref a, .ref b] [.ref a, .ref b] _ _ hr I.env0 hB r2 hsp) fun r s' hq => ?_)
  match r, hq with
  | .ok (.ret w), hq =>
    obtain ⟨z, H', I', rz, c, rfl, q⟩ := I.after hq
    cases rz
    exact ⟨.bl c, H', I', rfl, q⟩
  | .error e, hq => exact False.elim hq
  | .ok .next, hq => exact False.elim hq
  | .ok .brk, hq => exact False.elim hq
  | .ok .cont, hq => exact False.elim hq
/-! ### how long the text of whole numbers is -/
theorem text_le : ∀ (ts : List Str) (k : Nat) (acc : Str), (textFrom k acc ts).length ≤ acc.length + piled ts
  | [], _, acc => Nat.le_add_right _ _
  | t :: r, k, acc => by
    have ih := text_le r (k + 1) (acc ++ (if k > 0 then ", " else "" : String) ++ t)
    have e : (acc ++ (if k > 0 then ", " else "" : String) ++ t).length ≤ acc.length + 2 + t.length := by
      rw [strLen_append, strLen_append]
      split
      · exact Nat.le_refl _
      · exact Nat.add_le_add_right (Nat.add_le_add_left (Nat.zero_le 2) _) _
    show (textFrom (k + 1) _ r).length ≤ _
    rw [piled_cons]; omega
theorem piled_words : ∀ ns : List Int, (∀ n ∈ ns, 0 ≤ n ∧ n < 10 ^ 20) → piled (PyData.shownAll (ns.map PyData.int)) ≤ 22 * ns.length
  | [], _ => Nat.le_refl _
  | n :: r, h => by
    have i := piled_words r fun x hx => h x (List.mem_cons_of_mem _ hx)
    have j := toString_length_le (h n List.mem_cons_self).1 (by decide : 0 < 20) (h n List.mem_cons_self).2
    rw [List.map_cons, PyData.shownAll, piled_cons, PyData.shown, List.length_cons]
    omega
theorem words_dict : ∀ ns : List Int, PyData.hasDictAll (ns.map PyData.int) = false
  | [] => rfl
  | n :: r => by rw [List.map_cons, PyData.hasDictAll, PyData.hasDict, words_dict r] <;> rfl
theorem log_small {n : Int} (h : 0 ≤ n ∧ n < 10 ^ 20) : n.natAbs.log2 < 1920 := by
  by_cases z : n.natAbs = 0
  · rw [z]; decide
  · refine Nat.lt_trans (m := 67) ?_ (by decide)
    rw [Nat.log2_lt z]
    omega
theorem words_show : ∀ ns : List Int, (∀ n ∈ ns, 0 ≤ n ∧ n < 10 ^ 20) → PyData.showableAll (ns.map PyData.int) = true
  | [], _ => rfl
  | n :: r, h => by
    rw [List.map_cons, PyData.showableAll, PyData.showable, words_show r fun x hx => h x (List.mem_cons_of_mem _ hx), decide_eq_true (log_small (h n List.mem_cons_self))] <;> rfl
theorem words_depth : ∀ ns : List Int, PyData.depthAll (ns.map PyData.int) = 0
  | [] => by simp [PyData.depthAll]
  | n :: r => by simp [PyData.depthAll, PyData.depth, words_depth r]
/-- a list of words: all that repr asks -/
theorem shown_words {ns : List Int} (h : ∀ n ∈ ns, 0 ≤ n ∧ n < 10 ^ 20) (hl : ns.length ≤ 400) : (PyData.list (ns.map PyData.int)).showable = true ∧ (PyData.list (ns.map PyData.int)).hasDict = false ∧ (PyData.list (ns.map PyData.int)).depth ≤ 64 ∧ (PyData.list (ns.map PyData.int)).shown.length ≤ sizeLine := by
  refine ⟨by rw [PyData.showable]; exact words_show ns h, by rw [PyData.hasDict]; exact words_dict ns, by rw [PyData.depth, words_depth]; decide, ?_⟩
  rw [PyData.shown]
  have a := text_le (PyData.shownAll (ns.map PyData.int)) 0 "["
  have b := piled_words ns h
  show (textFrom 0 "[" _ ++ "]").length ≤ _
  rw [strLen_append, sizeLine_eq]
  have e : (("[" : String) : Str).length = 1 := rfl
  have e2 : (("]" : String) : Str).length = 1 := rfl
  rw [e] at a
  rw [e2]
  omega
/-! ### o.m(b=.., a=..) of two, in the other sequence -/
def kwR {α : Type} (us ws : List α) : List α := match us, ws with | [x], [b, a] => [x, a, b] | _, _ => []
theorem kw_bindsR {K : PySem.W.Frag} {x qual : Str} {st : Stmt} {f : Addr} {fd : FuncData} {ps : List Str} {p0 p1 p2 : Str} (F : Fun K x qual st f fd) (hp : ps = [p0, p1, p2])
    (h : ∀ (kV doc pm : Value) (an : Option Addr) (cdv ct : Value) (u a b : Value), bindArgs (PySem.W.fnOf x qual (defArgs st) (defBody st) (defScope st) .none kV doc pm an cdv ct) ⟨[u], [(p2, b), (p1, a)]⟩ = pure [(p0, u), (p1, a), (p2, b)]) : KBinds K fd ps [p2, p1] kwR kwR := by
  obtain ⟨oc, od, kV, doc, pm, an, cdv, ct, osl, rfl, lk, hcd⟩ := F.ex
  subst hp
  refine ⟨fun s us ws _ hl => ?_, fun {vs us zs ws} r1 r2 => ?_⟩
  · match us, ws, hl with
    | [u], [b, a], _ => exact .of_eq (h kV doc pm an cdv ct u a b)
    | [], _, hl => simp [kwR] at hl
    | [_], [], hl => simp [kwR] at hl
    | [_], [_], hl => simp [kwR] at hl
    | [_], _ :: _ :: _ :: _, hl => simp [kwR] at hl
    | _ :: _ :: _, _, hl => simp [kwR] at hl
  · cases r1 with
    | nil => exact .nil
    | cons a t =>
      cases t with
      | cons b t => exact .nil
      | nil =>
        cases r2 with
        | nil => exact .nil
        | cons b r2 =>
          cases r2 with
          | nil => exact .nil
          | cons c r2 =>
            cases r2 with
            | nil => exact .cons a (.cons c (.cons b .nil))
            | cons _ _ => exact .nil
/-! ### a list of ints beside the empty one -/
theorem eqv_nil (ns : List Int) : PyData.eqv (.list (ns.map PyData.int)) (.list []) = ns.isEmpty := by
  cases ns with
  | nil => exact eqv_ints []
  | cons a r => simp [PyData.eqv, PyData.eqvAll]
theorem op_neNil {X : Cx} (hu : X.A.units + 64 < cLine) : OpR X (compareOp .NotEq) (fun x y H Q => ∃ (p q : Addr) (ns : List Int), x = .ref p ∧ y = .ref q ∧ SqL X.K H p (ns.map V.int) ∧ SqL X.K H q [] ∧ Q (.bl (!ns.isEmpty)) H) := by
  intro pins s σ H x y v u Q I rx ry ⟨p, q, ns, e1, e2, h1, h2, k⟩
  refine op_neD hu pins s σ H x y v u Q I rx ry ⟨.list (ns.map PyData.int), .list [], ?_, ?_, ?_, ?_, ?_⟩
  · rw [e1]; exact .lst h1 (dp_ints ns)
  · rw [e2]; exact .lst h2 .nil
  · exact sh_ints ns
  · exact sh_ints []
  · rw [eqv_nil]; exact k
end Hx

set_option Elab.async false
set_option linter.all false
set_option maxRecDepth 100000
set_option maxHeartbeats 4000000
namespace Hx
open PySem PySem.Spec PyProof.Rows L2
/-! ### lists of pairs of ints; things of the same data in a grown heap -/
def rowD (r : Int × Int) : PyData := .tuple [.int r.1, .int r.2]
def rowsD (rs : List (Int × Int)) : PyData := .list (rs.map rowD)
theorem dp_rows {K : PySem.W.Frag} {H : Hp} : ∀ (ts : List Addr) (rs : List (Int × Int)), ts.length = rs.length → (∀ (i : Nat) (t : Addr) (r : Int × Int), ts[i]? = some t → rs[i]? = some r → H t = some (.tup [.int r.1, .int r.2])) → DpAll K H (ts.map V.ref) (rs.map rowD)
  | [], [], _, _ => .nil
  | t :: ts, r :: rs, hl, h => .cons (.tup (SqT.of (h 0 t r rfl rfl)) (.cons (.int _) (.cons (.int _) .nil))) (dp_rows ts rs (by simpa using hl) fun i t' r' h1 h2 => h (i + 1) t' r' (by simpa using h1) (by simpa using h2))
  | [], _ :: _, hl, _ => by simp at hl
  | _ :: _, [], hl, _ => by simp at hl
theorem rows_sh (rs : List (Int × Int)) : SeqAt.shaped (rowsD rs) = true := flat_sh (n := 2) (flat_list (n := 1) fun d hd => by
  obtain ⟨r, _, rfl⟩ := List.mem_map.mp hd
  exact flat_tup (n := 0) fun d hd => by
    simp at hd
    rcases hd with rfl | rfl <;> exact flat_int 0 _)
theorem sqt_same {K : PySem.W.Frag} {H H' : Hp} {a : Addr} {xs : List V} (s : Same H H') (h : SqT K H a xs) : SqT K H' a xs := h.elim (fun r => r.elim (fun e => .inl (.inl (s _ _ e))) (fun ⟨o, e⟩ => .inl (.inr ⟨o, s _ _ e⟩))) .inr
mutual
theorem dp_same {K : PySem.W.Frag} {H H' : Hp} (s : Same H H') : ∀ (d : PyData) (v : V), Dp K H v d → Dp K H' v d
  | .none, _, h => by cases h; exact .non
  | .bool b, _, h => by cases h; exact .bl b
  | .int i, _, h => by cases h; exact .int i
  | .str x, _, h => by cases h; exact .str x
  | .list ds, _, h => by cases h with | lst h1 h2 => exact .lst (L2.Same.seq s h1) (dpA_same s ds _ h2)
  | .tuple ds, _, h => by cases h with | tup h1 h2 => exact .tup (sqt_same s h1) (dpA_same s ds _ h2)
  | .dict _, _, h => by cases h
theorem dpA_same {K : PySem.W.Frag} {H H' : Hp} (s : Same H H') : ∀ (ds : List PyData) (vs : List V), DpAll K H vs ds → DpAll K H' vs ds
  | [], _, h => by cases h; exact .nil
  | d :: ds, _, h => by cases h with | cons h1 h2 => exact .cons (dp_same s d _ h1) (dpA_same s ds _ h2)
end
end Hx

set_option Elab.async false
set_option linter.all false
set_option maxRecDepth 100000
set_option maxHeartbeats 4000000
namespace Hx
open PySem PySem.Spec PyProof.Rows L2
/-! ### keywords in any sequence: n values by place, then those of the permutation -/
def kwP {α : Type} (n : Nat) (perm : List Nat) (us ws : List α) : List α := if us.length = n ∧ ws.length = perm.length then us ++ perm.filterMap (fun i => ws[i]?) else []
theorem vals_append {a b : List V} {x y : List Value} (h : Vals a x) (k : Vals b y) : Vals (a ++ b) (x ++ y) := by
  induction h with
  | nil => exact k
  | cons r t ih => exact .cons r ih
theorem vals_get {a : List V} {x : List Value} (h : Vals a x) : ∀ i : Nat, (∃ v u, a[i]? = some v ∧ x[i]? = some u ∧ RelV v u) ∨ (a[i]? = none ∧ x[i]? = none) := by
  induction h with
  | nil => exact fun i => .inr ⟨by simp, by simp⟩
  | cons r t ih =>
    intro i
    cases i with
    | zero => exact .inl ⟨_, _, rfl, rfl, r⟩
    | succ j => simpa using ih j
theorem vals_perm {a : List V} {x : List Value} (h : Vals a x) : ∀ perm : List Nat, Vals (perm.filterMap (fun i => a[i]?)) (perm.filterMap (fun i => x[i]?))
  | [] => .nil
  | i :: r => by
    have t := vals_perm h r
    rcases vals_get h i with ⟨v, u, e1, e2, q⟩ | ⟨e1, e2⟩
    · rw [List.filterMap_cons, List.filterMap_cons, e1, e2]; exact .cons q t
    · rw [List.filterMap_cons, List.filterMap_cons, e1, e2]; exact t
theorem vals_kwP {n : Nat} {perm : List Nat} {vs zs : List V} {us ws : List Value} (h : Vals vs us) (k : Vals zs ws) : Vals (kwP n perm vs zs) (kwP n perm us ws) := by
  unfold kwP
  rw [h.length, k.length]
  split
  · exact vals_append h (vals_perm k perm)
  · exact .nil
theorem kw_bindsP {K : PySem.W.Frag} {x qual : Str} {st : Stmt} {f : Addr} {fd : FuncData} {ps ks : List Str} {n : Nat} {perm : List Nat} (F : Fun K x qual st f fd) (h0 : 0 < ps.length)
    (h : ∀ (kV doc pm : Value) (an : Option Addr) (cdv ct : Value) (us ws : List Value), us.length = n → ws.length = perm.length → bindArgs (PySem.W.fnOf x qual (defArgs st) (defBody st) (defScope st) .none kV doc pm an cdv ct) ⟨us, ks.zip ws⟩ = pure (ps.zip (kwP n perm us ws))) : KBinds K fd ps ks (kwP n perm) (kwP n perm) := by
  obtain ⟨oc, od, kV, doc, pm, an, cdv, ct, osl, rfl, lk, hcd⟩ := F.ex
  refine ⟨fun s us ws _ hl => ?_, fun r1 r2 => vals_kwP r1 r2⟩
  by_cases q : us.length = n ∧ ws.length = perm.length
  · exact .of_eq (h kV doc pm an cdv ct us ws q.1 q.2)
  · unfold kwP at hl; rw [if_neg q] at hl; simp at hl; omega
theorem kw_bindsN {K : PySem.W.Frag} {x qual : Str} {st : Stmt} {f : Addr} {fd : FuncData} {ps ks : List Str} {n : Nat} {perm : List Nat} (F : Fun K x qual st f fd) (h0 : ks.length = perm.length)
    (h : ∀ (kV doc pm : Value) (an : Option Addr) (cdv ct : Value) (us ws : List Value), us.length = n → ws.length = perm.length → bindArgs (PySem.W.fnOf x qual (defArgs st) (defBody st) (defScope st) .none kV doc pm an cdv ct) ⟨us, ks.zip ws⟩ = pure (ps.zip (kwP n perm us ws))) : KBn K fd ps n ks (kwP n perm) (kwP n perm) := by
  obtain ⟨oc, od, kV, doc, pm, an, cdv, ct, osl, rfl, lk, hcd⟩ := F.ex
  exact ⟨fun s us ws _ l1 l2 => .of_eq (h kV doc pm an cdv ct us ws l1 (l2.trans h0)), fun r1 r2 => vals_kwP r1 r2⟩
/-! ### an own == beside a list -/
theorem op_eqOwnL {X : Cx} {n : Nat} {C f : Addr} {fd : FuncData} {ps : List Str} {sp : Sp} (F : FnOk X.prog X.w X.K X.mg X.base CX0 n f fd ps sp) (hr : Room n X.A)
    (hs : PySem.W.findIn X.K (.ref C) "__eq__" = some (some (.ref f))) (hf : PySem.W.isFn X.K (.ref f) = true) (hb : Binds X.K fd ps []) (hsl : PySem.W.subIn X.K (.type "list") (.ref C) = some false) :
    OpR X (compareOp .Eq) (fun x y H Q => ∃ a b dx fs xs, x = .ref a ∧ y = .ref b ∧ H a = some (.ins C dx fs) ∧ H b = some (.lst xs) ∧ sp [.ref a, .ref b] H (fun v H' => ∃ c, v = .bl c ∧ Q (.bl c) H') (fun _ _ _ => False)) := by
  intro pins s σ H x y v u Q I rx ry h
  obtain ⟨a, b, dx, fs, xs, rfl, rfl, ha, hb', hsp⟩ := h
  cases rx
  cases ry
  obtain ⟨mA, J, _⟩ := ins_get I.hok ha
  obtain ⟨od, J, _⟩ := J.look
  obtain ⟨_, _, nn, _, h1⟩ := (show ObjOk X.prog X.w H s.heap b (.lst xs) from I.hok b _ hb')
  obtain ⟨m, hF⟩ := I.fr
  have hu := hr.un
  refine PySem.W.cmp_K (op := .Eq) (tb := .type "list") (by omega) hF I.ok.mod.kin J (fun A Q E s k q => wpAny_typeOf_ref (k _ _ h1) q) (by simp [PySem.W.notFirst, hsl]) hs hf ?_
  have hl := F.len _ _ _ _ hsp
  have r2 : Vals [V.ref a, V.ref b] [Value.ref a, Value.ref b] := .cons rfl (.cons rfl .nil)
  have hB : BindsTo s fd ⟨[.ref a, .ref b], []⟩ (ps.zip [.ref a, .ref b]) := by
    have := hb s [.ref a, .ref b] I.kIn (by simpa using hl)
    simpa using this
  refine wpAny_call (codeAny_mono (F.run X.A X.stack s H ⟨[.ref a, .ref b], []⟩ [.ref a, .ref b] [.ref a, .ref b] _ _ hr I.env0 hB r2 hsp) fun r s' hq => ?_)
  match r, hq with
  | .ok (.ret w), hq =>
    obtain ⟨z, H', I', rz, c, rfl, q⟩ := I.after hq
    cases rz
    exact ⟨.bl c, H', I', rfl, q⟩
  | .error e, hq => exact False.elim hq
  | .ok .next, hq => exact False.elim hq
  | .ok .brk, hq => exact False.elim hq
  | .ok .cont, hq => exact False.elim hq
theorem kit_not {K : PySem.W.Frag} {C : Addr} (h1 : PySem.W.isClsIn K C = true) (h2 : PySem.W.typeIn K (.ref C) = some (.type "type")) (h3 : PySem.W.subIn K (.type "list") (.ref C) = some false) : PySem.W.kitOne K (.type "list") (.ref C) = some false := by
  have e : ((PySem.W.clsIn K C).isSome && PySem.W.typeIn K (.ref C) == some (.type "type")) = true := by
    have h1' : (PySem.W.clsIn K C).isSome = true := h1
    rw [h1', h2] <;> rfl
  show (if ((Value.type "list" == .ref C) = true) then some true else (if ((PySem.W.clsIn K C).isSome && PySem.W.typeIn K (.ref C) == some (.type "type")) = true then PySem.W.subIn K (.type "list") (.ref C) else none)) = some false
  rw [if_neg (by intro z; cases z), if_pos e]
  exact h3
/-! ### a comprehension that sifts -/
theorem lc_filt {α : Type} {K : PySem.W.Frag} {a : Addr} {g : TG} {tt : TT} {te : TE} {vs : List Nat} {σ : L2.St} {H1 : Hp} {D : Addr} {Qd : Hp → Prop} (zs : List α) (f : α → V) (t : α → Bool) (ha : SqL K H1 a (zs.map f)) (hD : H1 D = none) (hz : zs.length ≤ 10000)
    (hs : ∀ (i : Nat) (z : α) (H' : Hp) (Qn : Hp → Prop) (Qy : VK), zs[i]? = some z → Same H1 H' → (t z = false → ∀ H'', Same H' H'' → Qn H'') → (t z = true → ∀ H'', Same H' H'' → Qy (f z) H'') → g (f z) (wipe σ vs) H' fun σ2 H2 => wipe σ2 vs = wipe σ vs ∧ tt σ2 H2 fun b H3 => if b = true then te σ2 H3 Qy else Qn H3)
    (hd : ∀ H', Same H1 H' → H' D = some (.lst ((zs.filter t).map f)) → Qd H') :
    ∃ W : Nat → Nat → Hp → Prop, (∃ m, W 0 m (upd H1 D (.lst []))) ∧ ∀ i m H, W i m H →
      ((Itl K a).stop i H ∧ Qd H) ∨ ((Itl K a).go i H ∧ ∃ Nx : Hp → Prop, (∀ H', Nx H' → ∃ m', m' < m ∧ W (i + 1) m' H') ∧ ∀ x H', (Itl K a).yld i H x H' → g x (wipe σ vs) H' fun σ2 H2 => wipe σ2 vs = wipe σ vs ∧ tt σ2 H2 fun b H3 =>
        if b = true then te σ2 H3 fun y H4 => ∃ acc, H4 D = some (.lst acc) ∧ acc.length < sizeLine ∧ Nx (upd H4 D (.lst (acc ++ [y]))) else Nx H3) := by
  refine lc_list (xs := zs.map f) (fun i H => Same H1 H ∧ H D = some (.lst (((zs.take i).filter t).map f))) ⟨same_upd hD, upd_same⟩ (fun i H _ h => L2.Same.seq h.1 ha) (fun i x H hx h => ?_) (fun H h => hd H h.1 (by rw [h.2, List.length_map, List.take_length]))
  rw [List.getElem?_map] at hx
  obtain ⟨z, hz1, rfl⟩ := Option.map_eq_some_iff.mp hx
  have et : zs.take (i + 1) = zs.take i ++ [z] := by rw [List.take_add_one, hz1]; rfl
  refine hs i z H _ _ hz1 h.1 (fun tn H'' s => ?_) (fun ty H'' s => ?_)
  · refine ⟨L2.Same.trans h.1 s, ?_⟩
    rw [s _ _ h.2, et, List.filter_append, List.filter_cons_of_neg (by simp [tn]), List.filter_nil, List.append_nil]
  · refine ⟨((zs.take i).filter t).map f, s _ _ h.2, size_lt ?_, same_set (L2.Same.trans h.1 s) hD, ?_⟩
    · have := List.length_filter_le t (zs.take i)
      simp at this ⊢; omega
    · rw [upd_same, et, List.filter_append, List.filter_cons_of_pos ty, List.filter_nil, List.map_append]; rfl
/-! ### parts of a list -/
theorem cut_from (xs : List V) (k : Nat) : cutV xs (some (k : Int)) none = xs.drop k := by
  unfold cutV
  rw [HT.sIx_nat, HT.sIx_none, List.take_of_length_le (by rw [List.length_drop]; omega)]
  by_cases h : k ≤ xs.length
  · rw [Nat.min_eq_left h]
  · rw [Nat.min_eq_right (by omega), List.drop_length, List.drop_of_length_le (by omega)]
theorem cut_to (xs : List V) (k : Nat) : cutV xs none (some (k : Int)) = xs.take k := by
  unfold cutV
  rw [HT.sIx_nat, HT.sIx_none, List.drop_zero, Nat.sub_zero]
  by_cases h : k ≤ xs.length
  · rw [Nat.min_eq_left h]
  · rw [Nat.min_eq_right (by omega), List.take_length, List.take_of_length_le (by omega)]
/-! ### a list beside the empty one -/
theorem eqv_nilD (ds : List PyData) : PyData.eqv (.list ds) (.list []) = ds.isEmpty := by
  cases ds with
  | nil => rfl
  | cons a r => simp [PyData.eqv, PyData.eqvAll]
end Hx

set_option Elab.async false
set_option linter.all false
set_option maxRecDepth 100000
set_option maxHeartbeats 4000000
/-! HsSep: what is owned of a heap, as a list; a part of the heap that never changes; frames. -/
namespace L2
open PySem PySem.Spec PyProof.Rows
variable {K : PySem.W.Frag}
theorem DpAll.app' {M : Hp} : ∀ {vs us : List V} {ds es : List PyData}, DpAll K M vs ds → DpAll K M us es → DpAll K M (vs ++ us) (ds ++ es)
  | _, _, _, _, .nil, y => y
  | _, _, _, _, .cons x z, y => .cons x (DpAll.app' z y)
theorem DpAll.get {M : Hp} : ∀ {vs : List V} {ds : List PyData} {i : Nat} {v : V}, DpAll K M vs ds → vs[i]? = some v → ∃ d, ds[i]? = some d ∧ Dp K M v d
  | _, _, _, _, .nil, e => by simp at e
  | _, _, 0, _, .cons x _, e => by simp at e; subst e; exact ⟨_, rfl, x⟩
  | _, _, i + 1, v, .cons _ y, e => by
    obtain ⟨d, h1, h2⟩ := DpAll.get (i := i) (v := v) y (by simpa using e)
    exact ⟨d, by simpa using h1, h2⟩
theorem DpAll.get' {M : Hp} : ∀ {vs : List V} {ds : List PyData} {i : Nat} {v : V} {d : PyData}, DpAll K M vs ds → vs[i]? = some v → ds[i]? = some d → Dp K M v d := fun h e1 e2 => by
  obtain ⟨d', h1, h2⟩ := h.get e1
  rw [e2] at h1; cases h1; exact h2
theorem DpAll.len {M : Hp} : ∀ {vs : List V} {ds : List PyData}, DpAll K M vs ds → vs.length = ds.length
  | _, _, .nil => rfl
  | _, _, .cons _ y => by simp [DpAll.len y]
theorem DpAll.take {M : Hp} : ∀ {vs : List V} {ds : List PyData} (n : Nat), DpAll K M vs ds → DpAll K M (vs.take n) (ds.take n)
  | _, _, 0, _ => by simpa using DpAll.nil
  | _, _, _ + 1, .nil => by simpa using DpAll.nil
  | _, _, n + 1, .cons x y => by simpa using DpAll.cons x (DpAll.take n y)
theorem DpAll.drop {M : Hp} : ∀ {vs : List V} {ds : List PyData} (n : Nat), DpAll K M vs ds → DpAll K M (vs.drop n) (ds.drop n)
  | _, _, 0, h => by simpa using h
  | _, _, _ + 1, .nil => by simpa using DpAll.nil
  | _, _, n + 1, .cons _ y => by simpa using DpAll.drop n y
theorem DpAll.set {M : Hp} {v : V} {d : PyData} (x : Dp K M v d) : ∀ {vs : List V} {ds : List PyData} (n : Nat), DpAll K M vs ds → DpAll K M (vs.set n v) (ds.set n d)
  | _, _, _, .nil => by simpa using DpAll.nil
  | _, _, 0, .cons _ y => by simpa using DpAll.cons x y
  | _, _, n + 1, .cons z y => by simpa using DpAll.cons z (DpAll.set x n y)
theorem DpAll.erase {M : Hp} : ∀ {vs : List V} {ds : List PyData} (n : Nat), DpAll K M vs ds → DpAll K M (vs.eraseIdx n) (ds.eraseIdx n)
  | _, _, _, .nil => by simpa using DpAll.nil
  | _, _, 0, .cons _ y => by simpa using y
  | _, _, n + 1, .cons x y => by simpa using DpAll.cons x (DpAll.erase n y)
theorem DpAll.dropLast {M : Hp} {vs : List V} {ds : List PyData} (h : DpAll K M vs ds) : DpAll K M vs.dropLast ds.dropLast := by
  rw [List.dropLast_eq_take, List.dropLast_eq_take, h.len]; exact h.take _
theorem DpAll.rev {M : Hp} : ∀ {vs : List V} {ds : List PyData}, DpAll K M vs ds → DpAll K M vs.reverse ds.reverse
  | _, _, .nil => .nil
  | _, _, .cons x y => by rw [List.reverse_cons, List.reverse_cons]; exact DpAll.app' (DpAll.rev y) (.cons x .nil)
end L2
namespace Hx
open PySem PySem.Spec PyProof.Rows L2
/-- what stands at an owned address -/
inductive Ob where
  | raw (o : HO)
  | such (φ : HO → Prop)
  | L (ds : List PyData)
  | D (kds : List (Key × PyData))
/-- M: the part that never changes -/
def Hd (K : PySem.W.Frag) (M H : Hp) (a : Addr) : Ob → Prop
  | .raw o => H a = some o
  | .such φ => ∃ o, H a = some o ∧ φ o
  | .L ds => ∃ vs, H a = some (.lst vs) ∧ DpAll K M vs ds
  | .D kds => ∃ kvs : List (Key × V), H a = some (.dK kvs) ∧ kvs.map Prod.fst = kds.map Prod.fst ∧ DpAll K M (kvs.map Prod.snd) (kds.map Prod.snd)
/-- what is known of the part that never changes -/
inductive Pf where
  | tup (t : Addr) (vs : List V)
  | lst (t : Addr) (vs : List V)
  | dp (vs : List V) (ds : List PyData)
  | sq (t : Addr) (vs : List V)
def Pf.ok (K : PySem.W.Frag) (M : Hp) : Pf → Prop
  | .tup t vs => M t = some (.tup vs)
  | .lst t vs => M t = some (.lst vs)
  | .dp vs ds => DpAll K M vs ds
  | .sq t vs => SqT K M t vs
structure Own (K : PySem.W.Frag) (H : Hp) (L : List (Addr × Ob)) (P : List Pf) : Prop where
  ex : ∃ M : Hp, (L.map Prod.fst).Nodup ∧ (∀ p ∈ L, Hd K M H p.1 p.2 ∧ M p.1 = none) ∧ (∀ b u, M b = some u → H b = some u) ∧ ∀ q ∈ P, q.ok K M
theorem Pf.same {K : PySem.W.Frag} {M M' : Hp} (s : Same M M') : ∀ q : Pf, q.ok K M → q.ok K M'
  | .tup t vs, h => s _ _ h
  | .lst t vs, h => s _ _ h
  | .dp vs ds, h => dpA_same s _ _ h
  | .sq t vs, h => sqt_same s h
theorem Hd.some {K : PySem.W.Frag} {M H : Hp} {a : Addr} : ∀ {o : Ob}, Hd K M H a o → ∃ u, H a = Option.some u
  | .raw _, h => ⟨_, h⟩
  | .such _, ⟨_, h, _⟩ => ⟨_, h⟩
  | .L _, ⟨_, h, _⟩ => ⟨_, h⟩
  | .D _, ⟨_, h, _⟩ => ⟨_, h⟩
theorem Hd.same {K : PySem.W.Frag} {M M' H H' : Hp} {a : Addr} (s : Same M M') (e : H' a = H a) : ∀ {o : Ob}, Hd K M H a o → Hd K M' H' a o
  | .raw _, h => e.trans h
  | .such _, ⟨_, h, q⟩ => ⟨_, e.trans h, q⟩
  | .L _, ⟨_, h, q⟩ => ⟨_, e.trans h, dpA_same s _ _ q⟩
  | .D _, ⟨_, h, k, q⟩ => ⟨_, e.trans h, k, dpA_same s _ _ q⟩
variable {K : PySem.W.Frag} {H H1 M : Hp} {L L' R B : List (Addr × Ob)} {P P' : List Pf} {p a t : Addr} {o : HO} {ob : Ob} {vs us : List V} {ds es : List PyData}
theorem Own.new (h : Own K H L P) (f : H p = none) (e : upd H p o = H1) : Own K H1 ((p, .raw o) :: L) P := by
  subst e
  obtain ⟨M, nd, hl, hs, hp⟩ := h.ex
  have np : ∀ q ∈ L, q.1 ≠ p := fun q hq z => by obtain ⟨u, hu⟩ := (hl q hq).1.some; rw [z, f] at hu; cases hu
  have mp : M p = none := by
    cases e : M p with
    | none => rfl
    | some u => rw [hs _ _ e] at f; cases f
  refine ⟨M, ?_, fun q hq => ?_, fun b u hb => ?_, hp⟩
  · rw [List.map_cons, List.nodup_cons]
    exact ⟨fun z => by obtain ⟨q, hq, e⟩ := List.mem_map.mp z; exact np q hq e, nd⟩
  · rcases List.mem_cons.mp hq with rfl | hq
    · exact ⟨upd_same, mp⟩
    · exact ⟨(hl q hq).1.same (L2.Same.refl _) (upd_ne (np q hq)), (hl q hq).2⟩
  · rw [upd_ne (fun z => by rw [z, mp] at hb; cases hb)]; exact hs _ _ hb
/-- a new thing that never changes -/
theorem Own.newM (h : Own K H L P) (f : H p = none) (e : upd H p o = H1) {q : Pf} (hq : ∀ M : Hp, M p = some o → q.ok K M) : Own K H1 L (q :: P) := by
  subst e
  obtain ⟨M, nd, hl, hs, hp⟩ := h.ex
  have np : ∀ q ∈ L, q.1 ≠ p := fun q hq z => by obtain ⟨u, hu⟩ := (hl q hq).1.some; rw [z, f] at hu; cases hu
  have mp : M p = none := by
    cases e : M p with
    | none => rfl
    | some u => rw [hs _ _ e] at f; cases f
  have sm : Same M (upd M p o) := same_upd mp
  refine ⟨upd M p o, nd, fun q hq => ⟨(hl q hq).1.same sm (upd_ne (np q hq)), by rw [upd_ne (np q hq)]; exact (hl q hq).2⟩, fun b u hb => ?_, fun r hr => ?_⟩
  · by_cases z : b = p
    · subst z; rw [upd_same] at hb ⊢; exact hb
    · rw [upd_ne z] at hb ⊢; exact hs _ _ hb
  · rcases List.mem_cons.mp hr with rfl | hr
    · exact hq _ upd_same
    · exact r.same sm (hp r hr)
theorem Own.newT (h : Own K H L P) (f : H p = none) (e : upd H p (.tup vs) = H1) : Own K H1 L (.tup p vs :: P) := h.newM f e fun _ z => z
theorem Own.newP (h : Own K H L P) (f : H p = none) (e : upd H p (.lst vs) = H1) : Own K H1 L (.lst p vs :: P) := h.newM f e fun _ z => z
inductive At : List (Addr × Ob) → Addr → Ob → List (Addr × Ob) → Prop
  | head {a : Addr} {o o' : Ob} {t : List (Addr × Ob)} : At ((a, o) :: t) a o' ((a, o') :: t)
  | tail {a : Addr} {o' : Ob} {p : Addr × Ob} {t t' : List (Addr × Ob)} : At t a o' t' → At (p :: t) a o' (p :: t')
  | app {a : Addr} {o' : Ob} {A t t' : List (Addr × Ob)} : At t a o' t' → At (A ++ t) a o' (A ++ t')
theorem At.parts {L L' : List (Addr × Ob)} {a : Addr} {o' : Ob} (h : At L a o' L') : ∃ x o y, L = x ++ (a, o) :: y ∧ L' = x ++ (a, o') :: y := by
  induction h with
  | head => exact ⟨[], _, _, rfl, rfl⟩
  | tail _ ih => obtain ⟨x, o, y, e1, e2⟩ := ih; exact ⟨_ :: x, o, y, by rw [e1]; rfl, by rw [e2]; rfl⟩
  | @app _ _ A _ _ _ ih => obtain ⟨x, o, y, e1, e2⟩ := ih; exact ⟨A ++ x, o, y, by rw [e1, List.append_assoc], by rw [e2, List.append_assoc]⟩
theorem Own.setU (h : Own K H L P) (m : At L a ob L') (e : upd H a o = H1) (hd : ∀ M : Hp, (∀ q ∈ P, q.ok K M) → (∀ o0, (a, o0) ∈ L → Hd K M H a o0) → Hd K M (upd H a o) a ob) : Own K H1 L' P := by
  subst e
  obtain ⟨M, nd, hl, hs, hp⟩ := h.ex
  obtain ⟨x, o0, y, rfl, rfl⟩ := m.parts
  have ma : M a = none := (hl (a, o0) (by simp)).2
  have nd' := nd
  rw [List.map_append, List.map_cons, List.nodup_append, List.nodup_cons] at nd'
  have na : ∀ q, (q ∈ x ∨ q ∈ y) → q.1 ≠ a := fun q hq z => by
    rcases hq with hq | hq
    · exact nd'.2.2 q.1 (List.mem_map_of_mem hq) a List.mem_cons_self z
    · exact nd'.2.1.1 (List.mem_map.mpr ⟨q, hq, z⟩)
  refine ⟨M, by rw [List.map_append, List.map_cons] at nd ⊢; exact nd, fun q hq => ?_, fun b u hb => ?_, hp⟩
  · have old : (q ∈ x ∨ q ∈ y) → Hd K M (upd H a o) q.1 q.2 ∧ M q.1 = none := fun z => by
      have := hl q (by rcases z with z | z <;> simp [z])
      exact ⟨this.1.same (L2.Same.refl _) (upd_ne (na q z)), this.2⟩
    rcases List.mem_append.mp hq with hq | hq
    · exact old (.inl hq)
    · rcases List.mem_cons.mp hq with rfl | hq
      · exact ⟨hd M hp fun o1 m1 => (hl _ m1).1, ma⟩
      · exact old (.inr hq)
  · rw [upd_ne (fun z => by rw [z, ma] at hb; cases hb)]; exact hs _ _ hb
theorem Own.setO (h : Own K H L P) (m : At L a ob L') (e : upd H a o = H1) (hd : ∀ M : Hp, (∀ q ∈ P, q.ok K M) → Hd K M (upd H a o) a ob) : Own K H1 L' P := h.setU m e fun M q _ => hd M q
theorem Own.set (h : Own K H L P) (m : At L a (.raw o) L') (e : upd H a o = H1) : Own K H1 L' P := h.setO m e fun _ _ => upd_same
/-- the same, by a name that a walker sees -/
def updX (H : Hp) (a : Addr) (o : HO) : Hp := upd H a o
theorem upd_mk (H : Hp) (a : Addr) (o : HO) : upd H a o = updX H a o := rfl
theorem upd_mkO (h : Own K H L P) (a : Addr) (o : HO) : upd H a o = updX H a o := rfl
theorem Own.cset {G : Prop} (h : Own K H L P) (e : updX H a o = H1) (m : At L a (.raw o) L') (k : Own K H1 L' P → G) : G := k (h.set m e)
theorem Own.cnewT {G : Prop} (h : Own K H L P) (e : updX H p (.tup vs) = H1) (f : H p = none) (k : Own K H1 L (.tup p vs :: P) → G) : G := k (h.newT f e)
theorem Own.cnew {G : Prop} (h : Own K H L P) (e : updX H p o = H1) (f : H p = none) (k : Own K H1 ((p, .raw o) :: L) P → G) : G := k (h.new f e)
theorem Own.make {C dx x : Addr} (h : Own K H L P) (f1 : H x = none) (f2 : H dx = none) (f3 : dx ≠ x) (e : upd (updX H dx (.own x)) x (.ins C dx []) = H1) : Own K H1 ((x, .raw (.ins C dx [])) :: L) P := by
  have h1 := h.new f2 (o := .own x) rfl
  have h2 := h1.new (p := x) (o := .ins C dx []) (by rw [upd_ne (Ne.symm f3)]; exact f1) e
  obtain ⟨M, nd, hl, hs, hp⟩ := h2.ex
  refine ⟨M, ?_, fun p hp' => hl p ?_, hs, hp⟩
  · simp only [List.map_cons, List.nodup_cons, List.mem_cons, not_or] at nd ⊢
    exact ⟨nd.1.2, nd.2.2⟩
  · rcases List.mem_cons.mp hp' with rfl | z
    · exact List.mem_cons_self
    · exact List.mem_cons_of_mem _ (List.mem_cons_of_mem _ z)
theorem Own.cmake {G : Prop} {C dx x : Addr} (h : Own K H L P) (f1 : H x = none) (f2 : H dx = none) (f3 : dx ≠ x) (e : upd (updX H dx (.own x)) x (.ins C dx []) = H1) (k : Own K H1 ((x, .raw (.ins C dx [])) :: L) P → G) : G := k (h.make f1 f2 f3 e)
theorem Own.raw (h : Own K H L P) (m : (a, Ob.raw o) ∈ L) : H a = some o := by
  obtain ⟨M, nd, hl, hs, hp⟩ := h.ex
  exact (hl _ m).1
theorem Own.ptup (h : Own K H L P) (m : Pf.tup t vs ∈ P) : H t = some (.tup vs) := by
  obtain ⟨M, nd, hl, hs, hp⟩ := h.ex
  exact hs _ _ (hp _ m)
theorem Own.plst (h : Own K H L P) (m : Pf.lst t vs ∈ P) : H t = some (.lst vs) := by
  obtain ⟨M, nd, hl, hs, hp⟩ := h.ex
  exact hs _ _ (hp _ m)
theorem Own.pdp (h : Own K H L P) (m : Pf.dp vs ds ∈ P) : DpAll K H vs ds := by
  obtain ⟨M, nd, hl, hs, hp⟩ := h.ex
  exact dpA_same hs _ _ (hp _ m)
theorem Own.psq (h : Own K H L P) (m : Pf.sq t vs ∈ P) : SqT K H t vs := by
  obtain ⟨M, nd, hl, hs, hp⟩ := h.ex
  exact sqt_same hs (hp _ m)
theorem Own.lst (h : Own K H L P) (m : (a, Ob.L ds) ∈ L) : ∃ vs, H a = some (.lst vs) ∧ DpAll K H vs ds := by
  obtain ⟨M, nd, hl, hs, hp⟩ := h.ex
  obtain ⟨vs, e, q⟩ := (hl _ m).1
  exact ⟨vs, e, dpA_same hs _ _ q⟩
/-- entries by other words of the same heap -/
theorem Own.re (h : Own K H L P) (m : At L a ob L') {P' : List Pf} (f : ∀ M : Hp, (∀ q ∈ P, q.ok K M) → (∀ b u, M b = some u → H b = some u) → (∀ o0, (a, o0) ∈ L → Hd K M H a o0) → Hd K M H a ob ∧ ∀ q ∈ P', q.ok K M) : Own K H L' P' := by
  obtain ⟨M, nd, hl, hs, hp⟩ := h.ex
  obtain ⟨x, o0, y, rfl, rfl⟩ := m.parts
  obtain ⟨g1, g2⟩ := f M hp hs fun o0 m => (hl _ m).1
  refine ⟨M, by rw [List.map_append, List.map_cons] at nd ⊢; exact nd, fun q hq => ?_, hs, g2⟩
  rcases List.mem_append.mp hq with z | z
  · exact hl q (List.mem_append.mpr (.inl z))
  · rcases List.mem_cons.mp z with rfl | z
    · exact ⟨g1, (hl (a, o0) (by simp)).2⟩
    · exact hl q (List.mem_append.mpr (.inr (List.mem_cons_of_mem _ z)))
theorem Own.openL (h : Own K H L P) (m : (a, Ob.L ds) ∈ L) : ∃ vs, ∀ L', At L a (.raw (.lst vs)) L' → Own K H L' (.dp vs ds :: P) := by
  obtain ⟨M, nd, hl, hs, hp⟩ := h.ex
  obtain ⟨vs, e, q⟩ := (hl _ m).1
  refine ⟨vs, fun L' m' => ?_⟩
  obtain ⟨x, o0, y, rfl, rfl⟩ := m'.parts
  refine ⟨M, by rw [List.map_append, List.map_cons] at nd ⊢; exact nd, fun z hz => ?_, hs, fun z hz => ?_⟩
  · rcases List.mem_append.mp hz with w | w
    · exact hl z (List.mem_append.mpr (.inl w))
    · rcases List.mem_cons.mp w with rfl | w
      · exact ⟨e, (hl (a, o0) (by simp)).2⟩
      · exact hl z (List.mem_append.mpr (.inr (List.mem_cons_of_mem _ w)))
  · rcases List.mem_cons.mp hz with rfl | hz
    · exact q
    · exact hp z hz
theorem Own.openD {kds : List (Key × PyData)} (h : Own K H L P) (m : (a, Ob.D kds) ∈ L) : ∃ kvs : List (Key × V), kvs.map Prod.fst = kds.map Prod.fst ∧ ∀ L', At L a (.raw (.dK kvs)) L' → Own K H L' (.dp (kvs.map Prod.snd) (kds.map Prod.snd) :: P) := by
  obtain ⟨M, nd, hl, hs, hp⟩ := h.ex
  obtain ⟨vs, e, k, q⟩ := (hl _ m).1
  refine ⟨vs, k, fun L' m' => ?_⟩
  obtain ⟨x, o0, y, rfl, rfl⟩ := m'.parts
  refine ⟨M, by rw [List.map_append, List.map_cons] at nd ⊢; exact nd, fun z hz => ?_, hs, fun z hz => ?_⟩
  · rcases List.mem_append.mp hz with w | w
    · exact hl z (List.mem_append.mpr (.inl w))
    · rcases List.mem_cons.mp w with rfl | w
      · exact ⟨e, (hl (a, o0) (by simp)).2⟩
      · exact hl z (List.mem_append.mpr (.inr (List.mem_cons_of_mem _ w)))
  · rcases List.mem_cons.mp hz with rfl | hz
    · exact q
    · exact hp z hz
theorem Own.openS {φ : HO → Prop} (h : Own K H L P) (m : (a, Ob.such φ) ∈ L) : ∃ o, φ o ∧ ∀ L', At L a (.raw o) L' → Own K H L' P := by
  obtain ⟨M, nd, hl, hs, hp⟩ := h.ex
  obtain ⟨o, e, q⟩ := (hl _ m).1
  refine ⟨o, q, fun L' m' => ?_⟩
  obtain ⟨x, o0, y, rfl, rfl⟩ := m'.parts
  refine ⟨M, by rw [List.map_append, List.map_cons] at nd ⊢; exact nd, fun z hz => ?_, hs, hp⟩
  rcases List.mem_append.mp hz with w | w
  · exact hl z (List.mem_append.mpr (.inl w))
  · rcases List.mem_cons.mp w with rfl | w
    · exact ⟨e, (hl (a, o0) (by simp)).2⟩
    · exact hl z (List.mem_append.mpr (.inr (List.mem_cons_of_mem _ w)))
theorem Own.derive (h : Own K H L P) {q : Pf} (f : ∀ M : Hp, (∀ q ∈ P, q.ok K M) → q.ok K M) : Own K H L (q :: P) := by
  obtain ⟨M, nd, hl, hs, hp⟩ := h.ex
  exact ⟨M, nd, hl, hs, fun r hr => (List.mem_cons.mp hr).elim (fun e => e ▸ f M hp) (hp r)⟩
/-! ### what follows of what is known -/
def Dv (K : PySem.W.Frag) (P : List Pf) (vs : List V) (ds : List PyData) : Prop := ∀ M : Hp, (∀ q ∈ P, q.ok K M) → DpAll K M vs ds
def Dv1 (K : PySem.W.Frag) (P : List Pf) (v : V) (d : PyData) : Prop := ∀ M : Hp, (∀ q ∈ P, q.ok K M) → Dp K M v d
theorem Dv.nil : Dv K P [] [] := fun _ _ => .nil
theorem Dv.cons {v : V} {d : PyData} (x : Dv1 K P v d) (y : Dv K P vs ds) : Dv K P (v :: vs) (d :: ds) := fun M h => .cons (x M h) (y M h)
theorem Dv.of (m : Pf.dp vs ds ∈ P) : Dv K P vs ds := fun M h => h _ m
theorem Dv.app (x : Dv K P vs ds) (y : Dv K P us es) : Dv K P (vs ++ us) (ds ++ es) := fun M h => L2.DpAll.app' (x M h) (y M h)
theorem Dv1.non : Dv1 K P .non .none := fun _ _ => .non
theorem Dv1.bl (b : Bool) : Dv1 K P (.bl b) (.bool b) := fun _ _ => .bl b
theorem Dv1.int (i : Int) : Dv1 K P (.int i) (.int i) := fun _ _ => .int i
theorem Dv1.str (x : Str) : Dv1 K P (.str x) (.str x) := fun _ _ => .str x
theorem Dv1.tup (m : Pf.tup t vs ∈ P) (x : Dv K P vs ds) : Dv1 K P (.ref t) (.tuple ds) := fun M h => .tup (SqT.of (h _ m)) (x M h)
theorem Dv1.lst (m : Pf.lst t vs ∈ P) (x : Dv K P vs ds) : Dv1 K P (.ref t) (.list ds) := fun M h => .lst (SqL.of (h _ m)) (x M h)
theorem Dv1.of {v : V} {d : PyData} (m : Pf.dp [v] [d] ∈ P) : Dv1 K P v d := fun M h => by cases h _ m with | cons x _ => exact x
theorem DpAll_split {M : Hp} : ∀ {a b : List V} {d e : List PyData}, L2.DpAll K M (a ++ b) (d ++ e) → a.length = d.length → L2.DpAll K M a d ∧ L2.DpAll K M b e
  | [], _, [], _, h, _ => ⟨.nil, h⟩
  | [], _, _ :: _, _, _, l => by simp at l
  | _ :: _, _, [], _, _, l => by simp at l
  | x :: a, b, y :: d, e, h, l => by
    cases h with
    | cons p q =>
      obtain ⟨r1, r2⟩ := DpAll_split (a := a) (b := b) (d := d) (e := e) q (by simpa using l)
      exact ⟨.cons p r1, r2⟩
theorem Dv.fst {us : List V} (x : Dv K P (vs ++ us) (ds ++ es)) (l : vs.length = ds.length) : Dv K P vs ds := fun M h => (DpAll_split (x M h) l).1
theorem Dv.snd {us : List V} (x : Dv K P (vs ++ us) (ds ++ es)) (l : vs.length = ds.length) : Dv K P us es := fun M h => (DpAll_split (x M h) l).2
theorem Dv.hd {v : V} {d : PyData} (x : Dv K P (v :: vs) (d :: ds)) : Dv1 K P v d := fun M h => by cases x M h with | cons y _ => exact y
theorem Dv.tl {v : V} {d : PyData} (x : Dv K P (v :: vs) (d :: ds)) : Dv K P vs ds := fun M h => by cases x M h with | cons _ y => exact y
theorem Own.pd1 {v : V} {d : PyData} (h : Own K H L P) (m : Pf.dp [v] [d] ∈ P) : Dp K H v d := by
  cases h.pdp m with
  | cons y _ => exact y
theorem Own.dpL (h : Own K H L P) (m : (a, Ob.L ds) ∈ L) : Dp K H (.ref a) (.list ds) := by
  obtain ⟨vs, e, q⟩ := h.lst m
  exact .lst (SqL.of e) q
theorem Dv.take (n : Nat) (x : Dv K P vs ds) : Dv K P (vs.take n) (ds.take n) := fun M h => (x M h).take n
theorem Dv.drop (n : Nat) (x : Dv K P vs ds) : Dv K P (vs.drop n) (ds.drop n) := fun M h => (x M h).drop n
theorem Dv.set {v : V} {d : PyData} (n : Nat) (y : Dv1 K P v d) (x : Dv K P vs ds) : Dv K P (vs.set n v) (ds.set n d) := fun M h => (x M h).set (y M h) n
theorem Dv.erase (n : Nat) (x : Dv K P vs ds) : Dv K P (vs.eraseIdx n) (ds.eraseIdx n) := fun M h => (x M h).erase n
theorem Dv.dropLast (x : Dv K P vs ds) : Dv K P vs.dropLast ds.dropLast := fun M h => (x M h).dropLast
theorem Dv.rev (x : Dv K P vs ds) : Dv K P vs.reverse ds.reverse := fun M h => (x M h).rev
theorem Dv.get {i : Nat} {v : V} {d : PyData} (x : Dv K P vs ds) (e1 : vs[i]? = some v) (e2 : ds[i]? = some d) : Dv1 K P v d := fun M h => (x M h).get' e1 e2
theorem Dv.ints (ns : List Int) : Dv K P (ns.map V.int) (ns.map PyData.int) := fun _ _ => dp_ints ns
theorem Own.dv (h : Own K H L P) (x : Dv K P vs ds) : Own K H L (.dp vs ds :: P) := h.derive x
theorem Own.dv1 {v : V} {d : PyData} (h : Own K H L P) (x : Dv1 K P v d) : Own K H L (.dp [v] [d] :: P) := h.derive fun M z => .cons (x M z) .nil
theorem Own.all (h : Own K H L P) (x : Dv K P vs ds) : DpAll K H vs ds := (h.dv x).pdp List.mem_cons_self
theorem Own.one {v : V} {d : PyData} (h : Own K H L P) (x : Dv1 K P v d) : Dp K H v d := by
  cases (h.dv1 x).pdp List.mem_cons_self with
  | cons y _ => exact y
theorem Own.setL (h : Own K H L P) (m : At L a (.L ds) L') (e : upd H a (.lst vs) = H1) (x : Dv K P vs ds) : Own K H1 L' P := h.setO m e fun M q => ⟨vs, upd_same, x M q⟩
theorem Own.setS {φ : HO → Prop} (h : Own K H L P) (m : At L a (.such φ) L') (e : upd H a o = H1) (x : φ o) : Own K H1 L' P := h.setO m e fun _ _ => ⟨o, upd_same, x⟩
theorem Own.setD {kvs : List (Key × V)} {kds : List (Key × PyData)} (h : Own K H L P) (m : At L a (.D kds) L') (e : upd H a (.dK kvs) = H1) (k : kvs.map Prod.fst = kds.map Prod.fst) (x : Dv K P (kvs.map Prod.snd) (kds.map Prod.snd)) : Own K H1 L' P := h.setO m e fun M q => ⟨kvs, upd_same, k, x M q⟩
theorem Own.closeL (h : Own K H L P) (m : (a, Ob.raw (.lst vs)) ∈ L) (x : Dv K P vs ds) (m' : At L a (.L ds) L') : Own K H L' P := h.re m' fun M q hs hd => ⟨⟨vs, hd _ m, x M q⟩, q⟩
theorem Own.closeS {φ : HO → Prop} (h : Own K H L P) (m : (a, Ob.raw o) ∈ L) (x : φ o) (m' : At L a (.such φ) L') : Own K H L' P := h.re m' fun M q hs hd => ⟨⟨o, hd _ m, x⟩, q⟩
theorem Own.closeD {kvs : List (Key × V)} {kds : List (Key × PyData)} (h : Own K H L P) (m : (a, Ob.raw (.dK kvs)) ∈ L) (k : kvs.map Prod.fst = kds.map Prod.fst) (x : Dv K P (kvs.map Prod.snd) (kds.map Prod.snd)) (m' : At L a (.D kds) L') : Own K H L' P := h.re m' fun M q hs hd => ⟨⟨kvs, hd _ m, k, x M q⟩, q⟩
/-! ### blocks out of a list, and less -/
def Pk (L B R : List (Addr × Ob)) : Prop := L.Perm (B ++ R)
theorem Pk.one {p : Addr × Ob} : Pk (p :: R) [p] R := List.Perm.refl _
theorem Pk.here : Pk (B ++ R) B R := List.Perm.refl _
theorem Pk.all : Pk B B [] := by unfold Pk; rw [List.append_nil]
theorem Pk.skip1 {p : Addr × Ob} (h : Pk L B R) : Pk (p :: L) B (p :: R) := (h.cons p).trans List.perm_middle.symm
theorem Pk.skipB {A : List (Addr × Ob)} (h : Pk L B R) : Pk (A ++ L) B (A ++ R) := by
  unfold Pk at h ⊢
  refine (List.Perm.append_left A h).trans ?_
  rw [← List.append_assoc, ← List.append_assoc]
  exact List.Perm.append_right R List.perm_append_comm
/-- what stands by one word stands by another -/
def Ft (K : PySem.W.Frag) (P : List Pf) (o' o : Ob) : Prop := ∀ (M H : Hp) (a : Addr), (∀ q ∈ P, q.ok K M) → Hd K M H a o' → Hd K M H a o
theorem Ft.refl {o : Ob} : Ft K P o o := fun _ _ _ _ h => h
theorem Ft.eq {o' o : Ob} (e : o' = o) : Ft K P o' o := e ▸ Ft.refl
theorem Ft.lst {us vs : List V} (e : us = vs) : Ft K P (.raw (.lst us)) (.raw (.lst vs)) := e ▸ Ft.refl
theorem Ft.ins {C dx : Addr} {us vs : List (Str × V)} (e : us = vs) : Ft K P (.raw (.ins C dx us)) (.raw (.ins C dx vs)) := e ▸ Ft.refl
theorem Ft.dK {us vs : List (Key × V)} (e : us = vs) : Ft K P (.raw (.dK us)) (.raw (.dK vs)) := e ▸ Ft.refl
theorem Ft.toL (x : Dv K P vs ds) : Ft K P (.raw (.lst vs)) (.L ds) := fun M _ _ q h => ⟨vs, h, x M q⟩
theorem Ft.toS {φ : HO → Prop} {o : HO} (x : φ o) : Ft K P (.raw o) (.such φ) := fun _ _ _ _ h => ⟨o, h, x⟩
theorem Ft.toD {kvs : List (Key × V)} {kds : List (Key × PyData)} (k : kvs.map Prod.fst = kds.map Prod.fst) (x : Dv K P (kvs.map Prod.snd) (kds.map Prod.snd)) : Ft K P (.raw (.dK kvs)) (.D kds) := fun M _ _ q h => ⟨kvs, h, k, x M q⟩
theorem Ft.Le {ds es : List PyData} (e : ds = es) : Ft K P (.L ds) (.L es) := e ▸ Ft.refl
theorem Ft.De {ds es : List (Key × PyData)} (e : ds = es) : Ft K P (.D ds) (.D es) := e ▸ Ft.refl
theorem Ft.S {φ ψ : HO → Prop} (e : ∀ o, φ o → ψ o) : Ft K P (.such φ) (.such ψ) := fun _ _ _ _ ⟨o, h, x⟩ => ⟨o, h, e o x⟩
inductive Al (K : PySem.W.Frag) (P : List Pf) : List (Addr × Ob) → List (Addr × Ob) → Prop
  | nil : Al K P [] []
  | cons {a : Addr} {o' o : Ob} {L' L : List (Addr × Ob)} : Ft K P o' o → Al K P L' L → Al K P ((a, o') :: L') ((a, o) :: L)
theorem Al.refl : ∀ L : List (Addr × Ob), Al K P L L
  | [] => .nil
  | (_, _) :: t => .cons Ft.refl (Al.refl t)
theorem Al.app {A A' B B' : List (Addr × Ob)} (x : Al K P A A') (y : Al K P B B') : Al K P (A ++ B) (A' ++ B') := by
  induction x with
  | nil => exact y
  | cons f _ ih => exact .cons f ih
theorem Al.fst {A A' : List (Addr × Ob)} (x : Al K P A A') : A.map Prod.fst = A'.map Prod.fst := by
  induction x with
  | nil => rfl
  | cons f _ ih => rw [List.map_cons, List.map_cons, ih]
theorem Al.hd {A A' : List (Addr × Ob)} (x : Al K P A A') {M H : Hp} (q : ∀ q ∈ P, q.ok K M) (h : ∀ p ∈ A, Hd K M H p.1 p.2 ∧ M p.1 = none) : ∀ p ∈ A', Hd K M H p.1 p.2 ∧ M p.1 = none := by
  induction x with
  | nil => exact fun _ z => nomatch z
  | cons f _ ih =>
    intro p hp
    rcases List.mem_cons.mp hp with rfl | hp
    · have := h _ List.mem_cons_self
      exact ⟨f _ _ _ q this.1, this.2⟩
    · exact ih (fun p hp => h p (List.mem_cons_of_mem _ hp)) p hp
/-- L' out of L -/
def Sb (K : PySem.W.Frag) (P : List Pf) (L' L : List (Addr × Ob)) : Prop := ∃ L1 R, L.Perm (L1 ++ R) ∧ Al K P L1 L'
theorem Sb.refl (L : List (Addr × Ob)) : Sb K P L L := ⟨L, [], by rw [List.append_nil], Al.refl L⟩
theorem Sb.nil : Sb K P [] L := ⟨[], L, List.Perm.refl _, .nil⟩
theorem Sb.app (x : Pk L B R) (y : Sb K P L' R) : Sb K P (B ++ L') L := by
  obtain ⟨L1, z, e, al⟩ := y
  exact ⟨B ++ L1, z, x.trans (by rw [List.append_assoc]; exact List.Perm.append_left B e), Al.app (Al.refl B) al⟩
theorem Sb.cons {o' : Ob} (x : Pk L [(a, o')] R) (f : Ft K P o' ob) (y : Sb K P L' R) : Sb K P ((a, ob) :: L') L := by
  obtain ⟨L1, z, e, al⟩ := y
  exact ⟨(a, o') :: L1, z, x.trans (List.Perm.append_left [(a, o')] e), .cons f al⟩
theorem Sb.skip {p : Addr × Ob} (y : Sb K P L' L) : Sb K P L' (p :: L) := by
  obtain ⟨L1, z, e, al⟩ := y
  exact ⟨L1, p :: z, (e.cons p).trans List.perm_middle.symm, al⟩
theorem Sb.skipB {A : List (Addr × Ob)} (y : Sb K P L' L) : Sb K P L' (A ++ L) := by
  obtain ⟨L1, z, e, al⟩ := y
  refine ⟨L1, A ++ z, (List.Perm.append_left A e).trans ?_, al⟩
  rw [← List.append_assoc, ← List.append_assoc]
  exact List.Perm.append_right z List.perm_append_comm
def Ps (P' P : List Pf) : Prop := ∀ r ∈ P', r ∈ P
theorem Ps.refl : Ps P P := fun _ h => h
theorem Ps.nil : Ps [] P := fun _ h => nomatch h
theorem Ps.skip {q : Pf} (h : Ps P' P) : Ps P' (q :: P) := fun r hr => List.mem_cons_of_mem _ (h r hr)
theorem Ps.cons {q : Pf} (m : q ∈ P) (h : Ps P' P) : Ps (q :: P') P := fun r hr => (List.mem_cons.mp hr).elim (fun e => e ▸ m) (h r)
theorem Own.sub (h : Own K H L P) (s : Sb K P L' L) (q : Ps P' P) : Own K H L' P' := by
  obtain ⟨M, nd, hl, hs, hp⟩ := h.ex
  obtain ⟨L1, z, e, al⟩ := s
  have nd' := (e.map Prod.fst).nodup_iff.mp nd
  rw [List.map_append, List.nodup_append, al.fst] at nd'
  exact ⟨M, nd'.1, al.hd hp fun p hp' => hl p (e.mem_iff.mpr (List.mem_append.mpr (.inl hp'))), hs, fun r hr => hp r (q r hr)⟩
theorem Own.pick (h : Own K H L P) (m : Pk L B R) : Own K H (B ++ R) P := h.sub ⟨B ++ R, [], by rw [List.append_nil]; exact m, Al.refl _⟩ Ps.refl
/-- a flat value -/
def fv : PyData → V
  | .int i => .int i
  | .bool b => .bl b
  | .str x => .str x
  | _ => .non
def flatD : PyData → Bool
  | .int _ => true
  | .bool _ => true
  | .str _ => true
  | .none => true
  | _ => false
theorem dp_flat {M : Hp} : ∀ {d : PyData} {v : V}, Dp K M v d → flatD d = true → v = fv d
  | _, _, .non, _ => rfl
  | _, _, .bl _, _ => rfl
  | _, _, .int _, _ => rfl
  | _, _, .str _, _ => rfl
  | _, _, .lst _ _, h => nomatch h
  | _, _, .tup _ _, h => nomatch h
theorem dp_flats {M : Hp} : ∀ {vs : List V} {ds : List PyData}, DpAll K M vs ds → ds.all flatD = true → vs = ds.map fv
  | _, _, .nil, _ => rfl
  | _, _, .cons x y, h => by
    rw [List.all_cons, Bool.and_eq_true] at h
    rw [List.map_cons, ← dp_flat x h.1, ← dp_flats y h.2]
/-- a tuple of flat values opened -/
theorem Own.opn {v : V} {ds : List PyData} (h : Own K H L P) (x : Dv1 K P v (.tuple ds)) (hf : ds.all flatD = true := by rfl) : ∃ t, v = .ref t ∧ Own K H L (.sq t (ds.map fv) :: P) := by
  obtain ⟨M, nd, hl, hs, hp⟩ := h.ex
  cases x M hp with
  | @tup t xs _ hq ha =>
    refine ⟨t, rfl, M, nd, hl, hs, fun q hq' => ?_⟩
    rcases List.mem_cons.mp hq' with rfl | hq'
    · rw [← dp_flats ha hf]; exact hq
    · exact hp q hq'
/-- a list that is given up: it never changes any more -/
theorem Own.give (h : Own K H L P) (m : Pk L [(a, Ob.raw (.lst vs))] R) : Own K H R (.lst a vs :: P) := by
  have h2 : Own K H ((a, Ob.raw (.lst vs)) :: R) P := h.pick m
  obtain ⟨M, nd, hl, hs, hp⟩ := h2.ex
  rw [List.map_cons, List.nodup_cons] at nd
  have ha : H a = some (.lst vs) := (hl (a, Ob.raw (.lst vs)) List.mem_cons_self).1
  have ma : M a = none := (hl (a, Ob.raw (.lst vs)) List.mem_cons_self).2
  have sm : Same M (upd M a (.lst vs)) := same_upd ma
  refine ⟨upd M a (.lst vs), nd.2, fun q hq => ?_, fun b u hb => ?_, fun r hr => ?_⟩
  · have n : q.1 ≠ a := fun z => nd.1 (List.mem_map.mpr ⟨q, hq, z⟩)
    have := hl q (List.mem_cons_of_mem _ hq)
    exact ⟨this.1.same sm rfl, by rw [upd_ne n]; exact this.2⟩
  · by_cases z : b = a
    · subst z; rw [upd_same] at hb; rw [ha]; exact hb
    · rw [upd_ne z] at hb; exact hs _ _ hb
  · rcases List.mem_cons.mp hr with rfl | hr
    · exact (upd_same : upd M a (.lst vs) a = _)
    · exact r.same sm (hp r hr)
theorem Own.none_of (h : Own K H L P) (f : H p = none) : ∀ q ∈ L, q.1 ≠ p := fun q hq z => by
  obtain ⟨M, nd, hl, hs, hp⟩ := h.ex
  obtain ⟨u, hu⟩ := (hl q hq).1.some; rw [z, f] at hu; cases hu
/-- owned of nothing: a start -/
theorem Own.start {K : PySem.W.Frag} {H : Hp} : Own K H [] [] := ⟨fun _ => none, by simp, fun _ h => (nomatch h), fun _ _ h => (nomatch h), fun _ h => (nomatch h)⟩
theorem pg_trip {X : Cx} {i j l : Nat} {x y z : Str} {p1 p2 p3 pos : Pos} {kk : Nat} (hc : X.calm = true) (hN : X.N.Nodup) (hi : X.N[i]? = some x) (hj : X.N[j]? = some y) (hl : X.N[l]? = some z) (hx : Loc X.env.scope x) (hy : Loc X.env.scope y) (hz : Loc X.env.scope z)
    (hf : X.fn x = true ∨ X.env.scope.names.lookup x = some .local := by first | exact .inl rfl | exact .inr rfl | assumption) (hf2 : X.fn y = true ∨ X.env.scope.names.lookup y = some .local := by first | exact .inl rfl | exact .inr rfl | assumption) (hf3 : X.fn z = true ∨ X.env.scope.names.lookup z = some .local := by first | exact .inl rfl | exact .inr rfl | assumption)
    (hn : (assignEach [Expr.Name x p1, .Name y p2, .Name z p3] X.env).length = 3 := by rfl) (hst : (assignEach [Expr.Name x p1, .Name y p2, .Name z p3] X.env).findIdx? (·.1) = none := by rfl)
    (hs : (assignEach [Expr.Name x p1, .Name y p2, .Name z p3] X.env).map (·.2) = assign (.Name x p1) X.env :: (assignEach [Expr.Name y p2, .Name z p3] X.env).map (·.2) := by rfl)
    (hs2 : (assignEach [Expr.Name y p2, .Name z p3] X.env).map (·.2) = assign (.Name y p2) X.env :: (assignEach [Expr.Name z p3] X.env).map (·.2) := by rfl)
    (hs3 : (assignEach [Expr.Name z p3] X.env).map (·.2) = assign (.Name z p3) X.env :: (assignEach [] X.env).map (·.2) := by rfl) :
    PG X (.Tuple [.Name x p1, .Name y p2, .Name z p3] kk pos) (gTup X.K 3 (gCons (gName i) (gCons (gName j) (gCons (gName l) gNil)))) :=
  pg_tup hc (pgs_cons (pg_name hN hi hx hf) (pgs_cons (pg_name hN hj hy hf2) (pgs_cons (pg_name hN hl hz hf3) pgs_nil hs3) hs2) hs) hn hst
theorem kit_self' {K : PySem.W.Frag} {C : Addr} : PySem.W.kitOne K (.ref C) (.ref C) = some true := if_pos (beq_self_eq_true _)
/-! ### comprehensions -/
section
variable {g : TG} {te : TE} {tt : TT} {wv : List Nat} {σ : L2.St} {D : Addr} {Qd : Hp → Prop} {xs : List V}
theorem own_app {i : Nat} {y : V} {d : PyData} {vs : List V} (q' : Own K H ((D, .L ds) :: L) P) (ev : H D = some (.lst vs)) (dv : Dv1 K P y d) : Own K (upd H D (.lst (vs ++ [y]))) ((D, .L (ds ++ [d])) :: L) P := by
  refine q'.setU .head rfl fun M hp ho => ⟨vs ++ [y], upd_same, ?_⟩
  obtain ⟨vs', ev', dvs⟩ := ho _ List.mem_cons_self
  rw [ev] at ev'
  cases ev'
  exact L2.DpAll.app' dvs (.cons (dv M hp) .nil)
/-- a new list of data, over any walk -/
theorem lc_ownW {J : It} {n : Nat} {G : Hp → Prop} {Y : Nat → Hp → V → Hp → Prop} (w : Walk J n G Y) (ds : List PyData) (h : Own K H1 L P) (hD : H1 D = none) (hx : n = ds.length) (hz : n ≤ 10000)
    (ha : ∀ (H : Hp) (L' : List (Addr × Ob)) (P' : List Pf), (∀ p ∈ L, p ∈ L') → Ps P P' → Own K H L' P' → G H)
    (hs : ∀ (i : Nat) (x : V) (d : PyData) (H H' : Hp) (P' : List Pf) (Q : VK), i < n → Y i H x H' → ds[i]? = some d → Ps P P' → Own K H ((D, .L (ds.take i)) :: L) P' →
      (∀ (y : V) (H'' : Hp) (P'' : List Pf), Ps P' P'' → Own K H'' ((D, .L (ds.take i)) :: L) P'' → Dv1 K P'' y d → Q y H'') → g x (wipe σ wv) H' fun σ2 H2 => wipe σ2 wv = wipe σ wv ∧ te σ2 H2 Q)
    (hd : ∀ (H' : Hp) (P' : List Pf), Ps P P' → Own K H' ((D, .L ds) :: L) P' → Qd H') :
    ∃ W : Nat → Nat → Hp → Prop, (∃ m, W 0 m (upd H1 D (.lst []))) ∧ ∀ i m H, W i m H →
      (J.stop i H ∧ Qd H) ∨ (J.go i H ∧ ∃ Nx : Hp → Prop, (∀ H', Nx H' → ∃ m', m' < m ∧ W (i + 1) m' H') ∧ ∀ x H', J.yld i H x H' → g x (wipe σ wv) H' fun σ2 H2 => wipe σ2 wv = wipe σ wv ∧ tYes σ2 H2 fun b H3 =>
        if b = true then te σ2 H3 fun y H4 => ∃ acc, H4 D = some (.lst acc) ∧ acc.length < sizeLine ∧ Nx (upd H4 D (.lst (acc ++ [y]))) else Nx H3) := by
  refine lc_it w (fun i H => ∃ P', Ps P P' ∧ Own K H ((D, .L (ds.take i)) :: L) P') ⟨P, Ps.refl, ?_⟩ (fun i H _ ⟨P', s, q⟩ => ha H _ P' (fun p m => List.mem_cons_of_mem _ m) s q) (fun i x H H' hi ⟨P', s, q⟩ y => ?_) (fun H ⟨P', s, q⟩ => hd H P' s (by rw [List.take_of_length_le (by omega)] at q; exact q))
  · have h2 := h.new hD (o := .lst []) rfl
    exact h2.closeL (vs := []) List.mem_cons_self (by rw [List.take_zero]; exact Dv.nil) .head
  · have hi2 : i < ds.length := by omega
    refine hs i x ds[i] H H' P' _ hi y (List.getElem?_eq_getElem hi2) s q (fun y H'' P'' s' q' dv => ?_)
    obtain ⟨vs, ev, dvs⟩ := q'.lst List.mem_cons_self
    have len := dvs.len
    rw [List.length_take] at len
    refine ⟨vs, ev, size_lt (by omega), P'', fun r m => s' r (s r m), ?_⟩
    rw [List.take_add_one, List.getElem?_eq_getElem hi2]
    exact own_app (i := i) q' ev dv
/-- the same of flat values, as they are -/
theorem lc_rawW {J : It} {n : Nat} {G : Hp → Prop} {Y : Nat → Hp → V → Hp → Prop} (w : Walk J n G Y) (ys : List V) (h : Own K H1 L P) (hD : H1 D = none) (hx : n = ys.length) (hz : n ≤ 10000)
    (ha : ∀ (H : Hp) (L' : List (Addr × Ob)) (P' : List Pf), (∀ p ∈ L, p ∈ L') → Ps P P' → Own K H L' P' → G H)
    (hs : ∀ (i : Nat) (x y : V) (H H' : Hp) (P' : List Pf) (Q : VK), i < n → Y i H x H' → ys[i]? = some y → Ps P P' → Own K H ((D, .raw (.lst (ys.take i))) :: L) P' →
      (∀ (H'' : Hp) (P'' : List Pf), Ps P' P'' → Own K H'' ((D, .raw (.lst (ys.take i))) :: L) P'' → Q y H'') → g x (wipe σ wv) H' fun σ2 H2 => wipe σ2 wv = wipe σ wv ∧ te σ2 H2 Q)
    (hd : ∀ (H' : Hp) (P' : List Pf), Ps P P' → Own K H' ((D, .raw (.lst ys)) :: L) P' → Qd H') :
    ∃ W : Nat → Nat → Hp → Prop, (∃ m, W 0 m (upd H1 D (.lst []))) ∧ ∀ i m H, W i m H →
      (J.stop i H ∧ Qd H) ∨ (J.go i H ∧ ∃ Nx : Hp → Prop, (∀ H', Nx H' → ∃ m', m' < m ∧ W (i + 1) m' H') ∧ ∀ x H', J.yld i H x H' → g x (wipe σ wv) H' fun σ2 H2 => wipe σ2 wv = wipe σ wv ∧ tYes σ2 H2 fun b H3 =>
        if b = true then te σ2 H3 fun y H4 => ∃ acc, H4 D = some (.lst acc) ∧ acc.length < sizeLine ∧ Nx (upd H4 D (.lst (acc ++ [y]))) else Nx H3) := by
  refine lc_it w (fun i H => ∃ P', Ps P P' ∧ Own K H ((D, .raw (.lst (ys.take i))) :: L) P') ⟨P, Ps.refl, ?_⟩ (fun i H _ ⟨P', s, q⟩ => ha H _ P' (fun p m => List.mem_cons_of_mem _ m) s q) (fun i x H H' hi ⟨P', s, q⟩ y => ?_) (fun H ⟨P', s, q⟩ => hd H P' s (by rw [List.take_of_length_le (by omega)] at q; exact q))
  · rw [List.take_zero]; exact h.new hD rfl
  · have hi2 : i < ys.length := by omega
    refine hs i x ys[i] H H' P' _ hi y (List.getElem?_eq_getElem hi2) s q (fun H'' P'' s' q' => ?_)
    refine ⟨ys.take i, q'.raw List.mem_cons_self, size_lt (by rw [List.length_take]; omega), P'', fun r m => s' r (s r m), ?_⟩
    rw [List.take_add_one, List.getElem?_eq_getElem hi2]
    exact q'.set .head rfl
/-- sifted: those of zs that t takes, as they are; tt tells t, te the thing -/
theorem lc_siftW {α : Type} {J : It} {G : Hp → Prop} {Y : Nat → Hp → V → Hp → Prop} (zs : List α) (f : α → V) (t : α → Bool) (w : Walk J zs.length G Y) (h : Own K H1 L P) (hD : H1 D = none) (hz : zs.length ≤ 10000)
    (ha : ∀ (H : Hp) (L' : List (Addr × Ob)) (P' : List Pf), (∀ p ∈ L, p ∈ L') → Ps P P' → Own K H L' P' → G H)
    (hs : ∀ (i : Nat) (z : α) (x : V) (H H' : Hp) (P' : List Pf) (ys : List V) (Qn : Hp → Prop) (Qy : VK), zs[i]? = some z → Y i H x H' → Ps P P' → Own K H ((D, .raw (.lst ys)) :: L) P' →
      (t z = false → ∀ (H'' : Hp) (P'' : List Pf), Ps P' P'' → Own K H'' ((D, .raw (.lst ys)) :: L) P'' → Qn H'') →
      (t z = true → ∀ (H'' : Hp) (P'' : List Pf), Ps P' P'' → Own K H'' ((D, .raw (.lst ys)) :: L) P'' → Qy (f z) H'') → g x (wipe σ wv) H' fun σ2 H2 => wipe σ2 wv = wipe σ wv ∧ tt σ2 H2 fun b H3 => if b = true then te σ2 H3 Qy else Qn H3)
    (hd : ∀ (H' : Hp) (P' : List Pf), Ps P P' → Own K H' ((D, .raw (.lst ((zs.filter t).map f))) :: L) P' → Qd H') :
    ∃ W : Nat → Nat → Hp → Prop, (∃ m, W 0 m (upd H1 D (.lst []))) ∧ ∀ i m H, W i m H →
      (J.stop i H ∧ Qd H) ∨ (J.go i H ∧ ∃ Nx : Hp → Prop, (∀ H', Nx H' → ∃ m', m' < m ∧ W (i + 1) m' H') ∧ ∀ x H', J.yld i H x H' → g x (wipe σ wv) H' fun σ2 H2 => wipe σ2 wv = wipe σ wv ∧ tt σ2 H2 fun b H3 =>
        if b = true then te σ2 H3 fun y H4 => ∃ acc, H4 D = some (.lst acc) ∧ acc.length < sizeLine ∧ Nx (upd H4 D (.lst (acc ++ [y]))) else Nx H3) := by
  refine lc_it w (fun i H => ∃ P', Ps P P' ∧ Own K H ((D, .raw (.lst (((zs.take i).filter t).map f))) :: L) P') ⟨P, Ps.refl, ?_⟩ (fun i H _ ⟨P', s, q⟩ => ha H _ P' (fun p m => List.mem_cons_of_mem _ m) s q) (fun i x H H' hi ⟨P', s, q⟩ y => ?_) (fun H ⟨P', s, q⟩ => hd H P' s (by rw [List.take_of_length_le (by omega)] at q; exact q))
  · rw [List.take_zero]; exact h.new hD rfl
  · have et : zs.take (i + 1) = zs.take i ++ [zs[i]] := by rw [List.take_add_one, List.getElem?_eq_getElem hi]; rfl
    refine hs i zs[i] x H H' P' _ _ _ (List.getElem?_eq_getElem hi) y s q (fun tn H'' P'' s' q' => ⟨P'', fun r m => s' r (s r m), ?_⟩) (fun ty H'' P'' s' q' => ?_)
    · rw [et, List.filter_append, List.filter_cons, tn]; simpa using q'
    · refine ⟨_, q'.raw List.mem_cons_self, size_lt (by rw [List.length_map]; exact Nat.le_trans (List.length_filter_le _ _) (by rw [List.length_take]; omega)), P'', fun r m => s' r (s r m), ?_⟩
      have e2 : ((zs.take (i + 1)).filter t).map f = ((zs.take i).filter t).map f ++ [f zs[i]] := by rw [et, List.filter_append, List.filter_cons, ty]; simp
      rw [e2]
      exact q'.set .head rfl
end
/-! ### the pot -/
def PotO (o : HO) : Prop := ∃ x y : Int, o = .lst [.int x, .int y] ∧ 0 ≤ x ∧ 0 ≤ y ∧ y < 4294967296
def pt (a : Addr) : List (Addr × Ob) := [(a, .such PotO)]
/-- called with the pot and how many: a number below that, and the pot is still one -/
def spDrw (K : PySem.W.Frag) : Sp := fun vs H Q _ => ∃ (a : Addr) (n : Int) (R : List (Addr × Ob)) (P : List Pf), vs = [.ref a, .int n] ∧ Own K H (pt a ++ R) P ∧ 0 < n ∧ n < 1073741824 ∧
  ∀ (d : Int) (H' : Hp), 0 ≤ d → d < n → Own K H' (pt a ++ R) P → Q (.int d) H'
end Hx

set_option Elab.async false
set_option linter.all false
set_option maxRecDepth 100000
set_option maxHeartbeats 4000000
/-! cuts: what holds behind a statement, behind a test, is said once for all ways that come there -/
namespace Hx
open PySem PySem.Spec PyProof.Rows L2
def tMid (t : TS) : TS := fun D σ H => Stop (∃ Mid : L2.St → Hp → Prop, t { D with nx := Mid } σ H ∧ ∀ σ' H', Mid σ' H' → D.nx σ' H')
theorem ps_mid {X : Cx} {st : Stmt} {t : TS} (h : PS X st t) : PS X st (tMid t) := by
  refine ⟨fun pins s σ H D I q => ?_⟩
  obtain ⟨Mid, q, r⟩ := q.h
  refine thn (h.run pins s σ H { D with nx := Mid } I q) fun f s1 q => ?_
  cases f with
  | next =>
    obtain ⟨σ', H', I', q⟩ := q
    exact ⟨σ', H', I', r _ _ q⟩
  | ret v => exact q
  | brk => exact q
  | cont => exact q
def tTMid (t : TT) : TT := fun σ H Q => Stop (∃ Mid : Bool → Hp → Prop, t σ H Mid ∧ ∀ b H', Mid b H' → Q b H')
theorem pt_mid {X : Cx} {c : Expr} {t : TT} (h : PT X c t) : PT X c (tTMid t) := by
  refine ⟨fun pins s σ H Q I q => ?_⟩
  obtain ⟨Mid, q, r⟩ := q.h
  refine thn (h.run pins s σ H Mid I q) fun d s1 q => ?_
  obtain ⟨H1, I1, q⟩ := q
  exact ⟨H1, I1, r _ _ q⟩
def tEMid (t : TE) : TE := fun σ H Q => Stop (∃ Mid : VK, t σ H Mid ∧ ∀ v H', Mid v H' → Q v H')
theorem pe_mid {X : Cx} {e : Expr} {t : TE} (h : PE X e t) : PE X e (tEMid t) := by
  refine ⟨fun pins s σ H Q I q => ?_⟩
  obtain ⟨Mid, q, r⟩ := q.h
  refine thn (h.run pins s σ H Mid I q) fun d s1 q => ?_
  obtain ⟨v, H1, I1, rv, q⟩ := q
  exact ⟨v, H1, I1, rv, r _ _ q⟩
theorem Ps.trans {P P' P'' : List Pf} (h : Ps P P') (k : Ps P' P'') : Ps P P'' := fun r hr => k r (h r hr)
end Hx

set_option Elab.async false
set_option linter.all false
set_option maxRecDepth 100000
set_option maxHeartbeats 4000000
namespace Hx
open PySem PySem.Spec PyProof.Rows L2
abbrev Ln := Int × Int × Int
/-- what a renamer holds -/
structure RS where
  nm : List Int
  om : List Int
  fr : List Int
  ld : List Ln
  cl : List (Option Int)
structure RA where
  dx : Addr
  n : Addr
  o : Addr
  f : Addr
  l : Addr
  c : Addr
def oV : Option Int → V
  | none => .non
  | some i => .int i
@[simp] theorem oV_some (i : Int) : oV (some i) = .int i := rfl
@[simp] theorem oV_none : oV none = .non := rfl
def oD : Option Int → PyData
  | none => .none
  | some i => .int i
abbrev lnD (r : Ln) : PyData := .tuple [.int r.1, .int r.2.1, .int r.2.2]
def s0 (m : Nat) : RS := ⟨(List.range 8).map fun i : Nat => (i : Int), (List.range 8).map fun i : Nat => (i : Int), (List.range (m - 8)).map fun i : Nat => (8 : Int) + i, [], List.replicate 8 (some 0) ++ List.replicate (m - 8) none⟩
theorem rgV_nat (m : Nat) : rgV 0 (m : Int) = ((List.range m).map fun i : Nat => (i : Int)).map V.int := by
  unfold rgV
  simp
theorem rgV_8 (m : Nat) (h : 8 ≤ m) : rgV 8 (m : Int) = ((List.range (m - 8)).map fun i : Nat => (8 : Int) + i).map V.int := by
  unfold rgV
  have e : ((m : Int) - 8).toNat = m - 8 := by omega
  simp [e]
structure Ok (S : RS) (m : Nat) : Prop where
  nm : S.nm.length = 8
  om : S.om.length = 8
  cl : S.cl.length = m
  mb : 9 ≤ m ∧ m ≤ 48
  fl : S.fr.length + S.ld.length + 8 = m
  bn : ∀ i ∈ S.nm, 0 ≤ i ∧ i < m
  bo : ∀ i ∈ S.om, 0 ≤ i ∧ i < m
  bf : ∀ i ∈ S.fr, 0 ≤ i ∧ i < m
  bl : ∀ r ∈ S.ld, (0 ≤ r.1 ∧ r.1 < 8) ∧ (0 ≤ r.2.1 ∧ r.2.1 < m) ∧ (0 ≤ r.2.2 ∧ r.2.2 < m)
theorem atW {ws : List Int} {i : Nat} (h : i < ws.length) : atI (ws.map V.int) (i : Int) = some (.int (ws.getD i 0)) := atI_nat (by
  rw [List.getElem?_map, List.getElem?_eq_getElem h, List.getD_eq_getElem?_getD, List.getElem?_eq_getElem h]; rfl)
theorem atO {ws : List (Option Int)} {i : Nat} (h : i < ws.length) : atI (ws.map oV) (i : Int) = some (oV (ws.getD i none)) := atI_nat (by
  rw [List.getElem?_map, List.getElem?_eq_getElem h, List.getD_eq_getElem?_getD, List.getElem?_eq_getElem h]; rfl)
theorem ixW {ws : List V} {i : Nat} (h : i < ws.length) : ixN ws.length (i : Int) = some i := by
  unfold ixN
  rw [if_pos (by omega), if_pos (by omega), Int.toNat_natCast]
theorem flat_ints (xs : List Int) : (xs.map V.int).all flatV = true := by
  rw [List.all_map, List.all_eq_true]
  exact fun _ _ => rfl
theorem inV_ints (p : Int) (xs : List Int) : (if false = true then !inV (V.int p) (xs.map V.int) else inV (V.int p) (xs.map V.int)) = decide (p ∈ xs) := by
  rw [if_neg (fun z => nomatch z)]
  unfold inV
  rw [List.any_map, Bool.eq_iff_iff]
  simp [eqV]
theorem cut_last (ys : List V) (y : V) : cutV (ys ++ [y]) (some (-1)) none = [y] := by
  have e : HT.sIx (ys ++ [y]).length 0 (some (-1)) = ys.length := by
    show (if ((-1 : Int) < 0) then ((-1 : Int) + ((ys ++ [y]).length : Int)).toNat else min (-1 : Int).toNat (ys ++ [y]).length) = _
    rw [if_pos (by decide), List.length_append, List.length_singleton]
    omega
  unfold cutV
  rw [e, HT.sIx_none, List.drop_left]
  exact List.take_of_length_le (by simp)
theorem si0 {x : V} {xs : List V} : seqIndex? 0 (x :: xs).length = some 0 := by unfold seqIndex?; simp
abbrev tdD (S : RS) : PyData := .tuple [.tuple (S.nm.map PyData.int), .tuple (S.om.map PyData.int), .tuple (S.fr.map PyData.int), .tuple (S.ld.map lnD), .tuple (S.cl.map oD)]
theorem Dv.os {K : PySem.W.Frag} {P : List Pf} (cs : List (Option Int)) : Dv K P (cs.map oV) (cs.map oD) := fun M _ => by
  induction cs with
  | nil => exact .nil
  | cons a r ih => cases a with
    | none => exact .cons .non ih
    | some i => exact .cons (.int i) ih
def kw (S : RS) : List (Option Int) := S.om.map fun i => S.cl.getD i.toNat none
def wrD (S : RS) (r : Ln) : PyData := .tuple [.int r.1, oD (S.cl.getD r.2.1.toNat none)]
theorem Dv1.o {K : PySem.W.Frag} {P : List Pf} (c : Option Int) : Dv1 K P (oV c) (oD c) := fun _ _ => by
  cases c with
  | none => exact .non
  | some i => exact .int i
theorem dp_trip {K : PySem.W.Frag} {H : Hp} {v : V} {a b c : Int} (h : Dp K H v (.tuple [.int a, .int b, .int c])) : ∃ t, v = .ref t ∧ SqT K H t [.int a, .int b, .int c] := by
  cases h with
  | tup hs ha =>
    cases ha with | cons x1 h1 => cases x1; cases h1 with | cons x2 h2 => cases x2; cases h2 with | cons x3 h3 => cases x3; cases h3; exact ⟨_, rfl, hs⟩
theorem flat_ol {n : Nat} : ∀ c : Option Int, FlatD n (oD c)
  | none => ⟨by simp [oD, PyData.canLay0], by simp [oD, PyData.depth]⟩
  | some i => flat_int n i
theorem td_sh (S : RS) : SeqAt.shaped (tdD S) = true := flat_sh (n := 3) (flat_tup (n := 2) fun d hd => by
  simp only [List.mem_cons, List.not_mem_nil, or_false] at hd
  rcases hd with rfl | rfl | rfl | rfl | rfl
  · exact flat_tup (n := 1) fun d hd => by obtain ⟨z, _, rfl⟩ := List.mem_map.mp hd; exact flat_int 1 z
  · exact flat_tup (n := 1) fun d hd => by obtain ⟨z, _, rfl⟩ := List.mem_map.mp hd; exact flat_int 1 z
  · exact flat_tup (n := 1) fun d hd => by obtain ⟨z, _, rfl⟩ := List.mem_map.mp hd; exact flat_int 1 z
  · exact flat_tup (n := 1) fun d hd => by
      obtain ⟨z, _, rfl⟩ := List.mem_map.mp hd
      exact flat_tup (n := 0) fun d hd => by simp only [List.mem_cons, List.not_mem_nil, or_false] at hd; rcases hd with rfl | rfl | rfl <;> exact flat_int 0 _
  · exact flat_tup (n := 1) fun d hd => by obtain ⟨z, _, rfl⟩ := List.mem_map.mp hd; exact flat_ol z)
end Hx

set_option Elab.async false
set_option linter.all false
set_option maxRecDepth 100000
set_option maxHeartbeats 4000000
/-! what holds of a renamer through the deeds that can be done -/
namespace Hx
open PySem PySem.Spec PyProof.Rows L2
theorem getD_set_ne {α : Type} {l : List α} {a b : Nat} {v d : α} (h : a ≠ b) : (l.set a v).getD b d = l.getD b d := by
  simp [List.getD_eq_getElem?_getD, List.getElem?_set_ne h]
theorem getD_set_eq {α : Type} {l : List α} {a : Nat} {v d : α} (h : a < l.length) : (l.set a v).getD a d = v := by
  simp [List.getD_eq_getElem?_getD, h]
theorem mem_getD {α : Type} {l : List α} {a : Nat} {d : α} (h : a < l.length) : l.getD a d ∈ l := by
  rw [List.getD_eq_getElem?_getD, List.getElem?_eq_getElem h]; simp
theorem nd_inj {l : List Int} (h : l.Nodup) {i j : Nat} (hi : i < l.length) (hj : j < l.length) (e : l[i] = l[j]) : i = j := by
  rcases Nat.lt_trichotomy i j with a | a | a
  · exact absurd e (List.pairwise_iff_getElem.mp h i j hi hj a)
  · exact a
  · exact absurd e.symm (List.pairwise_iff_getElem.mp h j i hj hi a)
def Chain : List Int → List Ln → List Int → Prop
  | om, [], nm => nm = om
  | om, (w, n, o) :: r, nm => om.getD w.toNat 0 = o ∧ Chain (om.set w.toNat n) r nm
theorem chain_len : ∀ {om : List Int} {ld : List Ln} {nm : List Int}, Chain om ld nm → nm.length = om.length
  | _, [], _, h => by rw [h]
  | _, (_, _, _) :: r, _, h => by have := chain_len h.2; simpa using this
theorem chain_snoc {w n : Int} : ∀ {om : List Int} {ld : List Ln} {nm : List Int}, Chain om ld nm → Chain om (ld ++ [(w, n, nm.getD w.toNat 0)]) (nm.set w.toNat n)
  | _, [], _, h => ⟨by rw [h], by rw [h]; rfl⟩
  | _, (_, _, _) :: _, _, h => ⟨h.1, chain_snoc h.2⟩
theorem set_getD {l : List Int} {i : Nat} (h : i < l.length) : l.set i (l.getD i 0) = l := by
  apply List.ext_getElem (by simp)
  intro j h1 h2
  by_cases e : i = j
  · subst e; simp [List.getD_eq_getElem?_getD, h]
  · rw [List.getElem_set_ne e]
theorem chain_unsnoc {w n o : Int} : ∀ {om : List Int} {ld : List Ln} {nm : List Int}, Chain om (ld ++ [(w, n, o)]) nm → w.toNat < om.length → Chain om ld (nm.set w.toNat o)
  | om, [], nm, h, hl => by
    obtain ⟨h1, h2⟩ := h
    show nm.set w.toNat o = om
    rw [show nm = om.set w.toNat n from h2, List.set_set, ← h1, set_getD hl]
  | _, (_, _, _) :: _, _, h, hl => ⟨h.1, chain_unsnoc h.2 (by simpa using hl)⟩
theorem set_perm {i : Int} : ∀ {l : List Int} {w : Nat}, w < l.length → (l.set w i ++ [l.getD w 0]).Perm (l ++ [i])
  | [], _, h => by simp at h
  | a :: l, 0, _ => by
    simp only [List.set_cons_zero, List.getD_cons_zero, List.cons_append]
    exact ((List.perm_append_singleton a l).cons i).trans ((List.Perm.swap a i l).trans ((List.perm_append_singleton i l).symm.cons a))
  | a :: l, w + 1, h => by
    simp only [List.set_cons_succ, List.getD_cons_succ, List.cons_append]
    exact (set_perm (by simpa using h)).cons a
def cells (S : RS) : List Int := S.om ++ (S.fr ++ S.ld.map fun r => r.2.1)
/-- cl at a cell -/
def at' (cl : List (Option Int)) (c : Int) : Option Int := cl.getD c.toNat none
theorem at_ne {cl : List (Option Int)} {c e : Int} {v : Option Int} (h0 : 0 ≤ c) (h1 : 0 ≤ e) (h : c ≠ e) : at' (cl.set c.toNat v) e = at' cl e := getD_set_ne (by omega)
theorem at_eq {cl : List (Option Int)} {c : Int} {v : Option Int} (h0 : 0 ≤ c) (h1 : c < cl.length) : at' (cl.set c.toNat v) c = v := getD_set_eq (by omega)
structure Inv (S : RS) (m : Nat) (words : List Int) (ws : List (Int × Option Int)) : Prop where
  ok : Ok S m
  ch : Chain S.om S.ld S.nm
  nd : (cells S).Nodup
  nf : ∀ c ∈ S.fr, at' S.cl c = none
  kw : S.om.map (at' S.cl) = words.map some
  wr : ws = S.ld.map fun r => (r.1, at' S.cl r.2.1)
theorem Inv.rg {S : RS} {m : Nat} {words : List Int} {ws : List (Int × Option Int)} (h : Inv S m words ws) : ∀ c ∈ cells S, 0 ≤ c ∧ c < m := fun c hc => by
  rcases List.mem_append.mp hc with hc | hc
  · exact h.ok.bo c hc
  · rcases List.mem_append.mp hc with hc | hc
    · exact h.ok.bf c hc
    · obtain ⟨r, hr, rfl⟩ := List.mem_map.mp hc
      exact (h.ok.bl r hr).2.1
theorem Inv.len {S : RS} {m : Nat} {words : List Int} {ws : List (Int × Option Int)} (h : Inv S m words ws) : words.length = 8 ∧ ws.length = S.ld.length := by
  have := congrArg List.length h.kw
  rw [List.length_map, List.length_map, h.ok.om] at this
  exact ⟨this.symm, by rw [h.wr, List.length_map]⟩
theorem inv_s0 {m : Nat} (hm : 9 ≤ m ∧ m ≤ 48) : Inv (s0 m) m (List.replicate 8 0) [] := by
  refine ⟨⟨by simp [s0], by simp [s0], by simp [s0]; omega, hm, by simp [s0]; omega, ?_, ?_, ?_, fun r hr => by simp [s0] at hr⟩, rfl, ?_, ?_, ?_, rfl⟩
  · intro i hi; simp [s0] at hi; omega
  · intro i hi; simp [s0] at hi; omega
  · intro i hi; simp [s0] at hi; omega
  · unfold cells s0
    simp only [List.map_nil, List.append_nil]
    rw [List.nodup_append]
    refine ⟨?_, ?_, ?_⟩
    · exact List.Pairwise.map (fun i : Nat => (i : Int)) (fun a b h => by have : a ≠ b := h; show (a : Int) ≠ b; omega) List.nodup_range
    · exact List.Pairwise.map (fun i : Nat => (8 : Int) + i) (fun a b h => by have : a ≠ b := h; show (8 : Int) + a ≠ 8 + b; omega) List.nodup_range
    · intro a ha b hb e
      simp at ha hb
      omega
  · intro c hc
    simp only [s0, List.mem_map, List.mem_range] at hc
    obtain ⟨i, hi, rfl⟩ := hc
    show (List.replicate 8 (some (0 : Int)) ++ List.replicate (m - 8) none).getD (8 + (i : Int)).toNat none = none
    rw [List.getD_eq_getElem?_getD, List.getElem?_append_right (by simp; omega)]
    rw [List.getElem?_replicate]
    split <;> rfl
  · show ((List.range 8).map fun i : Nat => (i : Int)).map (at' (List.replicate 8 (some (0 : Int)) ++ List.replicate (m - 8) none)) = _
    rfl
def lendS (S : RS) (w new : Int) (fr : List Int) : RS := ⟨S.nm.set w.toNat new, S.om, fr, S.ld ++ [(w, new, S.nm.getD w.toNat 0)], S.cl⟩
def undoS (S : RS) (w i j : Int) (ld : List Ln) : RS := ⟨S.nm.set w.toNat j, S.om, i :: S.fr, ld, S.cl.set i.toNat none⟩
def keepS (S : RS) (w i j : Int) (ld : List Ln) : RS := ⟨S.nm, S.om.set w.toNat i, S.fr ++ [j], ld, S.cl.set j.toNat none⟩
theorem set_mem {l : List Int} {k : Nat} {v c : Int} (h : c ∈ l.set k v) : c ∈ l ∨ c = v := by
  have := List.mem_or_eq_of_mem_set h
  exact this
theorem inv_lend {S : RS} {m : Nat} {words : List Int} {ws : List (Int × Option Int)} (h : Inv S m words ws) {w new : Int} {fr : List Int} (hw : 0 ≤ w ∧ w < 8) (hf : S.fr = new :: fr) : Inv (lendS S w new fr) m words (ws ++ [(w, none)]) := by
  have ok := h.ok
  have rg := h.rg
  have hn : 0 ≤ new ∧ new < m := ok.bf new (by rw [hf]; exact List.mem_cons_self)
  have old : 0 ≤ S.nm.getD w.toNat 0 ∧ S.nm.getD w.toNat 0 < m := ok.bn _ (mem_getD (by have := ok.nm; omega))
  refine ⟨⟨by simp [lendS, ok.nm], ok.om, ok.cl, ok.mb, ?_, fun i hi => ?_, ok.bo, fun i hi => ok.bf i (by rw [hf]; exact List.mem_cons_of_mem _ hi), fun r hr => ?_⟩, chain_snoc h.ch, ?_, fun c hc => h.nf c (by rw [hf]; exact List.mem_cons_of_mem _ hc), h.kw, ?_⟩
  · have := ok.fl; rw [hf] at this; simp [lendS] at this ⊢; omega
  · rcases set_mem hi with hi | rfl
    · exact ok.bn i hi
    · exact hn
  · rcases List.mem_append.mp hr with hr | hr
    · exact ok.bl r hr
    · simp at hr; subst hr; exact ⟨hw, hn, old⟩
  · have e : (cells (lendS S w new fr)).Perm (cells S) := by
      unfold cells lendS
      rw [hf]
      simp only [List.map_append, List.map_cons, List.map_nil]
      refine List.Perm.append_left _ ?_
      rw [← List.append_assoc, List.cons_append]
      exact List.perm_append_comm
    exact e.nodup_iff.mpr h.nd
  · rw [h.wr]
    simp only [lendS, List.map_append, List.map_cons, List.map_nil]
    rw [h.nf new (by rw [hf]; exact List.mem_cons_self)]
theorem inv_put {S : RS} {m : Nat} {words : List Int} {ws : List (Int × Option Int)} (h : Inv S m words ws) {i : Nat} {r : Ln} {v : Int} (hi : S.ld[i]? = some r) : Inv ⟨S.nm, S.om, S.fr, S.ld, S.cl.set r.2.1.toNat (some v)⟩ m words (ws.set i (r.1, some v)) := by
  have ok := h.ok
  have hm : r ∈ S.ld := List.mem_of_getElem? hi
  have b := (ok.bl r hm).2.1
  have nd := h.nd
  unfold cells at nd
  rw [List.nodup_append, List.nodup_append] at nd
  have hm2 : r.2.1 ∈ S.ld.map fun r => r.2.1 := List.mem_map_of_mem hm
  have ne : ∀ c, 0 ≤ c → (c ∈ S.om ∨ c ∈ S.fr) → at' (S.cl.set r.2.1.toNat (some v)) c = at' S.cl c := fun c h0 hc => at_ne b.1 h0 (by
    rcases hc with hc | hc
    · exact Ne.symm (nd.2.2 c hc r.2.1 (List.mem_append.mpr (.inr hm2)))
    · exact Ne.symm (nd.2.1.2.2 c hc r.2.1 hm2))
  refine ⟨⟨ok.nm, ok.om, by simp [ok.cl], ok.mb, ok.fl, ok.bn, ok.bo, ok.bf, ok.bl⟩, h.ch, h.nd, fun c hc => ?_, ?_, ?_⟩
  · show at' (S.cl.set r.2.1.toNat (some v)) c = none
    rw [ne c (ok.bf c hc).1 (.inr hc)]; exact h.nf c hc
  · rw [← h.kw]
    exact List.map_congr_left fun c hc => ne c (ok.bo c hc).1 (.inl hc)
  · rw [h.wr]
    have nd3 := nd.2.1.2.1
    have il : i < S.ld.length := (List.getElem?_eq_some_iff.mp hi).1
    have ir : S.ld[i] = r := (List.getElem?_eq_some_iff.mp hi).2
    apply List.ext_getElem (by simp)
    intro k h1 h2
    have kl : k < S.ld.length := by simpa using h1
    rw [List.getElem_map]
    by_cases e : i = k
    · subst e
      rw [List.getElem_set_self, ir]
      exact Prod.ext rfl (at_eq b.1 (by rw [ok.cl]; exact b.2)).symm
    · rw [List.getElem_set_ne e, List.getElem_map]
      have q : at' (S.cl.set r.2.1.toNat (some v)) S.ld[k].2.1 = at' S.cl S.ld[k].2.1 := at_ne b.1 (ok.bl _ (List.getElem_mem kl)).2.1.1 (fun z => e (nd_inj nd3 (by simpa using il) (by simpa using kl) (by simpa [ir] using z)))
      exact Prod.ext rfl q.symm
theorem inv_undo {S : RS} {m : Nat} {words : List Int} {ws : List (Int × Option Int)} (h : Inv S m words ws) {w i j : Int} {ld : List Ln} (hd : S.ld = ld ++ [(w, i, j)]) : Inv (undoS S w i j ld) m words ws.dropLast := by
  have ok := h.ok
  have hm : (w, i, j) ∈ S.ld := by rw [hd]; simp
  have b := ok.bl _ hm
  have bw : 0 ≤ w ∧ w < 8 := b.1
  have bi : 0 ≤ i ∧ i < m := b.2.1
  have bj : 0 ≤ j ∧ j < m := b.2.2
  have nd := h.nd
  unfold cells at nd
  rw [List.nodup_append, List.nodup_append, hd, List.map_append] at nd
  have hm2 : i ∈ (ld.map fun r => r.2.1) ++ [(w, i, j)].map fun r => r.2.1 := by simp
  have ne : ∀ c, 0 ≤ c → c ≠ i → at' (S.cl.set i.toNat none) c = at' S.cl c := fun c h0 hc => at_ne bi.1 h0 (Ne.symm hc)
  refine ⟨⟨by simp [undoS, ok.nm], ok.om, by simp [undoS, ok.cl], ok.mb, ?_, fun c hc => ?_, ok.bo, fun c hc => ?_, fun r hr => ok.bl r (by rw [hd]; exact List.mem_append.mpr (.inl hr))⟩, ?_, ?_, fun c hc => ?_, ?_, ?_⟩
  · have := ok.fl; rw [hd] at this; simp [undoS] at this ⊢; omega
  · rcases set_mem hc with hc | rfl
    · exact ok.bn c hc
    · exact bj
  · rcases List.mem_cons.mp hc with rfl | hc
    · exact bi
    · exact ok.bf c hc
  · have ch := h.ch
    rw [hd] at ch
    exact chain_unsnoc ch (show w.toNat < S.om.length by rw [ok.om]; omega)
  · have e : (cells (undoS S w i j ld)).Perm (cells S) := by
      unfold cells undoS
      rw [hd]
      simp only [List.map_append, List.map_cons, List.map_nil]
      refine List.Perm.append_left _ ?_
      rw [← List.append_assoc, List.cons_append]
      exact List.perm_append_comm (l₁ := [i])
    exact e.nodup_iff.mpr h.nd
  · show at' (S.cl.set i.toNat none) c = none
    rcases List.mem_cons.mp hc with rfl | hc
    · exact at_eq bi.1 (by rw [ok.cl]; exact bi.2)
    · rw [ne c (ok.bf c hc).1 (nd.2.1.2.2 c hc i hm2)]; exact h.nf c hc
  · rw [← h.kw]
    exact List.map_congr_left fun c hc => ne c (ok.bo c hc).1 (nd.2.2 c hc i (List.mem_append.mpr (.inr hm2)))
  · rw [h.wr, hd, List.map_append, List.map_singleton, List.dropLast_concat]
    have n3 := nd.2.1.2.1
    rw [List.nodup_append] at n3
    refine List.map_congr_left fun r hr => Prod.ext rfl ?_
    exact (ne _ (ok.bl r (by rw [hd]; exact List.mem_append.mpr (.inl hr))).2.1.1 (n3.2.2 _ (List.mem_map_of_mem hr) i (by simp))).symm
theorem inv_keep {S : RS} {m : Nat} {words : List Int} {ws : List (Int × Option Int)} (h : Inv S m words ws) {w i j v : Int} {ld : List Ln} (hd : S.ld = (w, i, j) :: ld) (hv : at' S.cl i = some v) : Inv (keepS S w i j ld) m (words.set w.toNat v) ws.tail := by
  have ok := h.ok
  have hm : (w, i, j) ∈ S.ld := by rw [hd]; exact List.mem_cons_self
  have b := ok.bl _ hm
  have bw : 0 ≤ w ∧ w < 8 := b.1
  have bi : 0 ≤ i ∧ i < m := b.2.1
  have bj : 0 ≤ j ∧ j < m := b.2.2
  have ch := h.ch
  rw [hd] at ch
  have ej : S.om.getD w.toNat 0 = j := ch.1
  have wl : w.toNat < S.om.length := by rw [ok.om]; omega
  have jm : j ∈ S.om := by rw [← ej]; exact mem_getD wl
  have nd := h.nd
  have e : (cells (keepS S w i j ld)).Perm (cells S) := by
    have p := set_perm (i := i) wl
    rw [ej] at p
    unfold cells keepS
    rw [hd]
    simp only [List.map_cons]
    have a1 : (S.om.set w.toNat i ++ (S.fr ++ [j] ++ ld.map fun r => r.2.1)).Perm ((S.om.set w.toNat i ++ [j]) ++ (S.fr ++ ld.map fun r => r.2.1)) := by
      simp only [List.append_assoc]
      refine List.Perm.append_left _ ?_
      simp only [List.singleton_append]
      exact List.perm_middle
    have a2 : (S.om ++ (S.fr ++ i :: ld.map fun r => r.2.1)).Perm ((S.om ++ [i]) ++ (S.fr ++ ld.map fun r => r.2.1)) := by
      simp only [List.append_assoc]
      refine List.Perm.append_left _ ?_
      simp only [List.singleton_append]
      exact List.perm_middle
    exact a1.trans ((List.Perm.append_right _ p).trans a2.symm)
  have nd' := e.nodup_iff.mpr nd
  unfold cells at nd nd'
  rw [List.nodup_append, List.nodup_append] at nd
  have im : i ∈ S.ld.map fun r => r.2.1 := by rw [hd]; exact List.mem_cons_self
  have nij : j ≠ i := nd.2.2 j jm i (List.mem_append.mpr (.inr im))
  have ne : ∀ c, 0 ≤ c → c ≠ j → at' (S.cl.set j.toNat none) c = at' S.cl c := fun c h0 hc => at_ne bj.1 h0 (Ne.symm hc)
  refine ⟨⟨ok.nm, by simp [keepS, ok.om], by simp [keepS, ok.cl], ok.mb, ?_, ok.bn, fun c hc => ?_, fun c hc => ?_, fun r hr => ok.bl r (by rw [hd]; exact List.mem_cons_of_mem _ hr)⟩, ch.2, nd', fun c hc => ?_, ?_, ?_⟩
  · have := ok.fl; rw [hd] at this; simp [keepS] at this ⊢; omega
  · rcases set_mem hc with hc | rfl
    · exact ok.bo c hc
    · exact bi
  · rcases List.mem_append.mp hc with hc | hc
    · exact ok.bf c hc
    · simp at hc; subst hc; exact bj
  · show at' (S.cl.set j.toNat none) c = none
    rcases List.mem_append.mp hc with hc | hc
    · rw [ne c (ok.bf c hc).1 (fun z => nd.2.2 j jm c (List.mem_append.mpr (.inl hc)) z.symm)]; exact h.nf c hc
    · simp at hc; subst hc; exact at_eq bj.1 (by rw [ok.cl]; exact bj.2)
  · have hk := h.kw
    have wl2 : w.toNat < words.length := by rw [h.len.1]; omega
    show (S.om.set w.toNat i).map (at' (S.cl.set j.toNat none)) = (words.set w.toNat v).map some
    apply List.ext_getElem (by have := h.len.1; simp [ok.om, this])
    intro k h1 h2
    rw [List.getElem_map, List.getElem_map]
    have kl : k < S.om.length := by simpa using h1
    have kw2 : k < words.length := by simpa using h2
    by_cases q : w.toNat = k
    · subst q
      rw [List.getElem_set_self, List.getElem_set_self, ne i bi.1 (Ne.symm nij)]; exact hv
    · rw [List.getElem_set_ne q, List.getElem_set_ne q]
      have hk2 : at' S.cl S.om[k] = some words[k] := by
        have := congrArg (fun l => l[k]?) hk
        simpa [kl, kw2] using this
      rw [← hk2]
      refine ne _ (ok.bo _ (List.getElem_mem kl)).1 (fun z => q ?_)
      have ew : S.om[w.toNat] = j := by rw [← ej, List.getD_eq_getElem?_getD, List.getElem?_eq_getElem wl]; rfl
      exact nd_inj nd.1 wl kl (ew.trans z.symm)
  · rw [h.wr, hd, List.map_cons, List.tail_cons]
    refine List.map_congr_left fun r hr => Prod.ext rfl ?_
    have rm : r.2.1 ∈ S.ld.map fun r => r.2.1 := by rw [hd]; exact List.mem_cons_of_mem _ (List.mem_map_of_mem hr)
    exact (ne _ (ok.bl r (by rw [hd]; exact List.mem_cons_of_mem _ hr)).2.1.1 (fun z => nd.2.2 j jm _ (List.mem_append.mpr (.inr rm)) z.symm)).symm
theorem inv_write {S : RS} {m : Nat} {words : List Int} (h : Inv S m words []) {w : Nat} {v : Int} (hw : w < 8) : Inv ⟨S.nm, S.om, S.fr, [], S.cl.set (S.om.getD w 0).toNat (some v)⟩ m (words.set w v) [] := by
  have ok := h.ok
  have hd : S.ld = [] := List.eq_nil_of_length_eq_zero h.len.2.symm
  have wl : w < S.om.length := by rw [ok.om]; exact hw
  have cm : S.om.getD w 0 ∈ S.om := mem_getD wl
  have bc := ok.bo _ cm
  have nd := h.nd
  unfold cells at nd
  rw [List.nodup_append] at nd
  generalize ec : S.om.getD w 0 = c at *
  have ne : ∀ e, 0 ≤ e → e ≠ c → at' (S.cl.set c.toNat (some v)) e = at' S.cl e := fun e h0 hc => at_ne bc.1 h0 (Ne.symm hc)
  refine ⟨⟨ok.nm, ok.om, by simp [ok.cl], ok.mb, by have := ok.fl; rw [hd] at this; exact this, ok.bn, ok.bo, ok.bf, fun r hr => nomatch hr⟩, by have := h.ch; rw [hd] at this; exact this, by have := h.nd; unfold cells at this ⊢; rw [hd] at this; exact this, fun e he => ?_, ?_, rfl⟩
  · show at' (S.cl.set c.toNat (some v)) e = none
    rw [ne e (ok.bf e he).1 (fun z => nd.2.2 c cm e (List.mem_append.mpr (.inl he)) z.symm)]; exact h.nf e he
  · have hk := h.kw
    have wl2 : w < words.length := by rw [h.len.1]; exact hw
    show S.om.map (at' (S.cl.set c.toNat (some v))) = (words.set w v).map some
    apply List.ext_getElem (by have := h.len.1; simp [ok.om, this])
    intro k h1 h2
    rw [List.getElem_map, List.getElem_map]
    have kl : k < S.om.length := by simpa using h1
    have kw2 : k < words.length := by simpa using h2
    have ew : S.om[w] = c := by rw [← ec, List.getD_eq_getElem?_getD, List.getElem?_eq_getElem wl]; rfl
    by_cases q : w = k
    · subst q
      rw [List.getElem_set_self, ew]; exact at_eq bc.1 (by rw [ok.cl]; exact bc.2)
    · rw [List.getElem_set_ne q]
      have hk2 : at' S.cl S.om[k] = some words[k] := by
        have := congrArg (fun l => l[k]?) hk
        simpa [kl, kw2] using this
      rw [← hk2]
      exact ne _ (ok.bo _ (List.getElem_mem kl)).1 (fun z => q (nd_inj nd.1 wl kl (ew.trans z.symm)))
def IsInv (S : RS) (m : Nat) : Prop := ∃ words ws, Inv S m words ws
theorem not_fr {S : RS} {m : Nat} {words : List Int} {ws : List (Int × Option Int)} (h : Inv S m words ws) {new : Int} {fr : List Int} (hf : S.fr = new :: fr) : new ∉ fr := by
  have nd := h.nd
  unfold cells at nd
  rw [List.nodup_append, List.nodup_append, hf, List.nodup_cons] at nd
  exact nd.2.1.1.1
/-- undone in this sequence, S is what comes -/
def Un (S : RS) : List Ln → RS → Prop
  | [], S' => S' = S
  | r :: rs, S' => ∃ ld, S'.ld = ld ++ [r] ∧ Un S rs (undoS S' r.1 r.2.1 r.2.2 ld)
theorem undo_lend {S : RS} {m : Nat} (h : IsInv S m) {w new : Int} {fr : List Int} (hw : 0 ≤ w ∧ w < 8) (hf : S.fr = new :: fr) (v : Option Int) :
    undoS ⟨S.nm.set w.toNat new, S.om, fr, S.ld ++ [(w, new, S.nm.getD w.toNat 0)], S.cl.set new.toNat v⟩ w new (S.nm.getD w.toNat 0) S.ld = S := by
  obtain ⟨words, ws, h⟩ := h
  have ok := h.ok
  have hn : 0 ≤ new ∧ new < m := ok.bf new (by rw [hf]; exact List.mem_cons_self)
  have e1 : (S.nm.set w.toNat new).set w.toNat (S.nm.getD w.toNat 0) = S.nm := by rw [List.set_set]; exact set_getD (by rw [ok.nm]; omega)
  have e2 : (S.cl.set new.toNat v).set new.toNat none = S.cl := by
    rw [List.set_set]
    have nf : S.cl.getD new.toNat none = none := h.nf new (by rw [hf]; exact List.mem_cons_self)
    apply List.ext_getElem (by simp)
    intro j h1 h2
    by_cases e : new.toNat = j
    · subst e
      rw [List.getElem_set_self]
      rw [List.getD_eq_getElem?_getD, List.getElem?_eq_getElem h2] at nf
      exact nf.symm
    · rw [List.getElem_set_ne e]
  show (⟨_, _, _, _, _⟩ : RS) = S
  rw [e1, e2, ← hf]
theorem cl_same {S : RS} {m : Nat} (h : IsInv S m) {new : Int} {fr : List Int} (hf : S.fr = new :: fr) : S.cl.set new.toNat none = S.cl := by
  obtain ⟨words, ws, h⟩ := h
  have nf : S.cl.getD new.toNat none = none := h.nf new (by rw [hf]; exact List.mem_cons_self)
  apply List.ext_getElem (by simp)
  intro j h1 h2
  by_cases e : new.toNat = j
  · subst e
    rw [List.getElem_set_self]
    rw [List.getD_eq_getElem?_getD, List.getElem?_eq_getElem h2] at nf
    exact nf.symm
  · rw [List.getElem_set_ne e]
theorem un_lend {S0 S : RS} {m : Nat} {rs : List Ln} (u : Un S0 rs S) (h : IsInv S m) {w new : Int} {fr : List Int} (hw : 0 ≤ w ∧ w < 8) (hf : S.fr = new :: fr) : Un S0 ((w, new, S.nm.getD w.toNat 0) :: rs) (lendS S w new fr) := by
  refine ⟨S.ld, rfl, ?_⟩
  have e := undo_lend h hw hf none
  rw [cl_same h hf] at e
  show Un S0 rs (undoS (lendS S w new fr) w new (S.nm.getD w.toNat 0) S.ld)
  rw [show undoS (lendS S w new fr) w new (S.nm.getD w.toNat 0) S.ld = S from e]
  exact u
theorem un_lendput {S0 S : RS} {m : Nat} {rs : List Ln} (u : Un S0 rs S) (h : IsInv S m) {w new v : Int} {fr : List Int} (hw : 0 ≤ w ∧ w < 8) (hf : S.fr = new :: fr) :
    Un S0 ((w, new, S.nm.getD w.toNat 0) :: rs) ⟨(lendS S w new fr).nm, (lendS S w new fr).om, (lendS S w new fr).fr, (lendS S w new fr).ld, (lendS S w new fr).cl.set new.toNat (some v)⟩ := by
  refine ⟨S.ld, rfl, ?_⟩
  have e := undo_lend h hw hf (some v)
  show Un S0 rs (undoS ⟨S.nm.set w.toNat new, S.om, fr, S.ld ++ [(w, new, S.nm.getD w.toNat 0)], S.cl.set new.toNat (some v)⟩ w new (S.nm.getD w.toNat 0) S.ld)
  rw [e]
  exact u
theorem dp_quad {K : PySem.W.Frag} {H : Hp} {v : V} {a b c d : Int} (h : Dp K H v (.tuple [.int a, .int b, .int c, .int d])) : ∃ t, v = .ref t ∧ SqT K H t [.int a, .int b, .int c, .int d] := by
  cases h with
  | tup hs ha =>
    cases ha with | cons x1 h1 => cases x1; cases h1 with | cons x2 h2 => cases x2; cases h2 with | cons x3 h3 => cases x3; cases h3 with | cons x4 h4 => cases x4; cases h4; exact ⟨_, rfl, hs⟩
abbrev lwD (q : Ln × Int) : PyData := .tuple [.int q.1.1, .int q.1.2.1, .int q.1.2.2, .int q.2]
def putIf (S : RS) (q : Ln × Int) : RS := if (at' S.cl q.1.2.1).isSome then S else ⟨S.nm, S.om, S.fr, S.ld, S.cl.set q.1.2.1.toNat (some q.2)⟩
def keep1 (S : RS) (q : Ln × Int) : RS := keepS (putIf S q) q.1.1 q.1.2.1 q.1.2.2 S.ld.tail
def keepN (S : RS) (lf : List (Ln × Int)) : RS := lf.foldl keep1 S
structure Jn (S : RS) (m : Nat) (words : List Int) (lf : List (Ln × Int)) : Prop where
  ex : ∃ ws, Inv S m words ws
  ld : S.ld = lf.map Prod.fst
  q : ∀ q ∈ lf, (0 ≤ q.2 ∧ q.2 < 65536) ∧ (at' S.cl q.1.2.1 = none ∨ at' S.cl q.1.2.1 = some q.2)
theorem Jn.put {S : RS} {m : Nat} {words : List Int} {q : Ln × Int} {lf : List (Ln × Int)} (h : Jn S m words (q :: lf)) : ∃ ws, Inv (putIf S q) m words ws ∧ (putIf S q).ld = S.ld ∧ at' (putIf S q).cl q.1.2.1 = some q.2 ∧ ∀ r ∈ lf, at' (putIf S q).cl r.1.2.1 = at' S.cl r.1.2.1 := by
  obtain ⟨ws, hI⟩ := h.ex
  have hq := (h.q q List.mem_cons_self).2
  have hl := h.ld
  rw [List.map_cons] at hl
  unfold putIf
  split
  · next e =>
    rcases hq with hq | hq
    · rw [hq] at e; cases e
    · exact ⟨ws, hI, rfl, hq, fun _ _ => rfl⟩
  · have i0 : S.ld[0]? = some q.1 := by rw [hl]; rfl
    have hI2 := inv_put hI (i := 0) (v := q.2) i0
    have b := (hI.ok.bl q.1 (by rw [hl]; exact List.mem_cons_self)).2.1
    refine ⟨_, hI2, rfl, at_eq b.1 (by rw [hI.ok.cl]; exact b.2), fun r hr => ?_⟩
    have nd := hI.nd
    unfold cells at nd
    rw [List.nodup_append, List.nodup_append, hl, List.map_cons, List.nodup_cons] at nd
    have rm : r.1.2.1 ∈ (lf.map Prod.fst).map fun r => r.2.1 := List.mem_map_of_mem (List.mem_map_of_mem hr)
    exact at_ne b.1 (hI.ok.bl r.1 (by rw [hl]; exact List.mem_cons_of_mem _ (List.mem_map_of_mem hr))).2.1.1 (fun z => nd.2.1.2.1.1 (z ▸ rm))
theorem Jn.keep {S : RS} {m : Nat} {words : List Int} {q : Ln × Int} {lf : List (Ln × Int)} (h : Jn S m words (q :: lf)) : Jn (keep1 S q) m (words.set q.1.1.toNat q.2) lf := by
  obtain ⟨ws, hI, hl, hv, hr⟩ := h.put
  have hl0 := h.ld
  rw [List.map_cons] at hl0
  obtain ⟨⟨w, i, j⟩, v⟩ := q
  have hd : (putIf S ((w, i, j), v)).ld = (w, i, j) :: S.ld.tail := by rw [hl, hl0]; rfl
  have hK := inv_keep hI hd hv
  refine ⟨⟨_, hK⟩, by show S.ld.tail = _; rw [hl0]; rfl, fun r hm => ⟨(h.q r (List.mem_cons_of_mem _ hm)).1, ?_⟩⟩
  have e1 := hK.wr
  have e2 := hI.wr
  rw [hd, List.map_cons] at e2
  rw [e2, List.tail_cons] at e1
  have rm : r.1 ∈ S.ld.tail := by rw [hl0]; exact List.mem_map_of_mem hm
  have e3 := (List.map_inj_left.mp e1) r.1 rm
  have e4 : at' (putIf S ((w, i, j), v)).cl r.1.2.1 = at' (keep1 S ((w, i, j), v)).cl r.1.2.1 := congrArg Prod.snd e3
  rw [← e4, hr r hm]
  exact (h.q r (List.mem_cons_of_mem _ hm)).2
def appW (words : List Int) (lf : List (Ln × Int)) : List Int := lf.foldl (fun ws q => ws.set q.1.1.toNat q.2) words
theorem Jn.keepN {m : Nat} : ∀ {lf : List (Ln × Int)} {S : RS} {words : List Int} (k : Nat), Jn S m words lf → Jn (keepN S (lf.take k)) m (appW words (lf.take k)) (lf.drop k)
  | lf, S, words, 0, h => by simpa [Hx.keepN, appW] using h
  | [], S, words, k + 1, h => by simpa [Hx.keepN, appW] using h
  | q :: lf, S, words, k + 1, h => by
    have := Jn.keepN (m := m) (lf := lf) k h.keep
    simpa [Hx.keepN, appW] using this
abbrev wtD (t : Int × Int × Int) : PyData := .tuple [.int t.1, .int t.2.1, .int t.2.2]
abbrev RL := RS × List (Ln × Int)
def full (m : Nat) (s : RL) : RL := if s.2.length = m - 8 then (keepN s.1 (s.2.take 1), s.2.drop 1) else s
def lent1 (s : RL) (t : Int × Int × Int) : RL := (lendS s.1 t.1 (s.1.fr.headD 0) s.1.fr.tail, s.2 ++ [((t.1, s.1.fr.headD 0, s.1.nm.getD t.1.toNat 0), t.2.1)])
def put1 (s : RL) (c : Int) (t : Int × Int × Int) : RL := if t.2.2 = 0 then (⟨s.1.nm, s.1.om, s.1.fr, s.1.ld, s.1.cl.set c.toNat (some t.2.1)⟩, s.2) else s
def kept1 (times : Nat) (s : RL) (t : Int × Int × Int) : RL := if t.2.2 = 2 then (keepN s.1 (s.2.take (min times s.2.length)), s.2.drop (min times s.2.length)) else s
def stepR (m times : Nat) (s : RL) (t : Int × Int × Int) : RL := kept1 times (put1 (lent1 (full m s) t) ((full m s).1.fr.headD 0) t) t
def runR (m times : Nat) (ts : List (Int × Int × Int)) : RL := ts.foldl (stepR m times) (s0 m, [])
def plainW (ts : List (Int × Int × Int)) : List Int := ts.foldl (fun ws t => ws.set t.1.toNat t.2.1) (List.replicate 8 0)
def RI (s : RL) (m : Nat) (ws : List Int) : Prop := ∃ words, Jn s.1 m words s.2 ∧ appW words s.2 = ws
theorem RI.keep {s : RL} {m : Nat} {ws : List Int} (h : RI s m ws) (k : Nat) : RI (keepN s.1 (s.2.take k), s.2.drop k) m ws := by
  obtain ⟨words, hJ, e⟩ := h
  refine ⟨_, hJ.keepN k, ?_⟩
  rw [← e]
  unfold appW
  rw [← List.foldl_append, List.take_append_drop]
theorem RI.len {s : RL} {m : Nat} {ws : List Int} (h : RI s m ws) : s.1.fr.length + s.2.length + 8 = m ∧ 9 ≤ m ∧ m ≤ 48 := by
  obtain ⟨words, hJ, e⟩ := h
  obtain ⟨w, hI⟩ := hJ.ex
  have := hI.ok.fl
  rw [hJ.ld, List.length_map] at this
  exact ⟨this, hI.ok.mb⟩
theorem RI.full {s : RL} {m : Nat} {ws : List Int} (h : RI s m ws) : RI (full m s) m ws ∧ ∃ new fr, (Hx.full m s).1.fr = new :: fr := by
  have l0 := h.len
  have r : RI (Hx.full m s) m ws := by
    unfold Hx.full
    split
    · exact h.keep 1
    · exact h
  refine ⟨r, ?_⟩
  have l1 := r.len
  have : (Hx.full m s).2.length < m - 8 := by
    unfold Hx.full
    split
    · simp; omega
    · omega
  cases e : (Hx.full m s).1.fr with
  | nil => rw [e] at l1; simp at l1; omega
  | cons a b => exact ⟨a, b, rfl⟩
theorem Jn.lend {S : RS} {m : Nat} {words : List Int} {lf : List (Ln × Int)} (h : Jn S m words lf) {w new v : Int} {fr : List Int} (hf : S.fr = new :: fr) (hw : 0 ≤ w ∧ w < 8) (hv : 0 ≤ v ∧ v < 65536) :
    Jn (lendS S w new fr) m words (lf ++ [((w, new, S.nm.getD w.toNat 0), v)]) := by
  obtain ⟨ws, hI⟩ := h.ex
  refine ⟨⟨_, inv_lend hI hw hf⟩, by show S.ld ++ _ = _; rw [h.ld, List.map_append]; rfl, fun q hq => ?_⟩
  rcases List.mem_append.mp hq with hq | hq
  · exact h.q q hq
  · simp at hq
    subst hq
    exact ⟨hv, .inl (hI.nf new (by rw [hf]; exact List.mem_cons_self))⟩
theorem Jn.put' {S : RS} {m : Nat} {words : List Int} {lf : List (Ln × Int)} {q : Ln × Int} (h : Jn S m words (lf ++ [q])) : Jn ⟨S.nm, S.om, S.fr, S.ld, S.cl.set q.1.2.1.toNat (some q.2)⟩ m words (lf ++ [q]) := by
  obtain ⟨ws, hI⟩ := h.ex
  have hl := h.ld
  rw [List.map_append] at hl
  have i0 : S.ld[lf.length]? = some q.1 := by rw [hl]; simp
  have b := (hI.ok.bl q.1 (by rw [hl]; simp)).2.1
  refine ⟨⟨_, inv_put hI (v := q.2) i0⟩, h.ld, fun r hr => ⟨(h.q r hr).1, ?_⟩⟩
  by_cases e : r.1.2.1 = q.1.2.1
  · have nd := hI.nd
    unfold cells at nd
    rw [List.nodup_append, List.nodup_append] at nd
    have n3 := nd.2.1.2.1
    rcases List.mem_append.mp hr with hr | hr
    · rw [hl, List.map_append, List.nodup_append] at n3
      exact absurd e (n3.2.2 _ (List.mem_map_of_mem (List.mem_map_of_mem hr)) _ (by simp))
    · simp at hr
      subst hr
      exact .inr (at_eq b.1 (by rw [hI.ok.cl]; exact b.2))
  · have br := (hI.ok.bl r.1 (by rw [h.ld]; exact List.mem_map_of_mem hr)).2.1
    have : at' (S.cl.set q.1.2.1.toNat (some q.2)) r.1.2.1 = at' S.cl r.1.2.1 := at_ne b.1 br.1 (fun z => e z.symm)
    show at' (S.cl.set q.1.2.1.toNat (some q.2)) r.1.2.1 = none ∨ _
    rw [this]
    exact (h.q r hr).2
theorem appW_snoc {words : List Int} {lf : List (Ln × Int)} {q : Ln × Int} : appW words (lf ++ [q]) = (appW words lf).set q.1.1.toNat q.2 := by
  unfold appW; rw [List.foldl_append]; rfl
theorem RI.lent {s : RL} {m : Nat} {ws : List Int} (h : RI s m ws) {t : Int × Int × Int} {new : Int} {fr : List Int} (hf : s.1.fr = new :: fr) (hw : 0 ≤ t.1 ∧ t.1 < 8) (hv : 0 ≤ t.2.1 ∧ t.2.1 < 65536) : RI (lent1 s t) m (ws.set t.1.toNat t.2.1) := by
  obtain ⟨words, hJ, e⟩ := h
  refine ⟨words, ?_, ?_⟩
  · have := hJ.lend hf hw hv
    unfold lent1
    rw [hf]
    exact this
  · show appW words (s.2 ++ [_]) = _
    rw [appW_snoc, e]
theorem RI.put {s : RL} {m : Nat} {ws : List Int} {t : Int × Int × Int} (h : RI (lent1 s t) m ws) : RI (put1 (lent1 s t) (s.1.fr.headD 0) t) m ws := by
  unfold put1
  split
  · obtain ⟨words, hJ, e⟩ := h
    exact ⟨words, hJ.put', e⟩
  · exact h
theorem RI.kept {s : RL} {m times : Nat} {ws : List Int} {t : Int × Int × Int} (h : RI s m ws) : RI (kept1 times s t) m ws := by
  unfold kept1
  split
  · exact h.keep _
  · exact h
theorem RI.step {s : RL} {m times : Nat} {ws : List Int} (h : RI s m ws) {t : Int × Int × Int} (hw : 0 ≤ t.1 ∧ t.1 < 8) (hv : 0 ≤ t.2.1 ∧ t.2.1 < 65536) : RI (stepR m times s t) m (ws.set t.1.toNat t.2.1) := by
  obtain ⟨h1, new, fr, hf⟩ := h.full
  exact (h1.lent hf hw hv).put.kept
theorem RI.start {m : Nat} (hm : 9 ≤ m ∧ m ≤ 48) : RI (s0 m, []) m (List.replicate 8 0) := ⟨_, ⟨⟨_, inv_s0 hm⟩, rfl, fun _ h => nomatch h⟩, rfl⟩
theorem RI.runs {m times : Nat} (hm : 9 ≤ m ∧ m ≤ 48) : ∀ ts : List (Int × Int × Int), (∀ t ∈ ts, (0 ≤ t.1 ∧ t.1 < 8) ∧ (0 ≤ t.2.1 ∧ t.2.1 < 65536)) → RI (runR m times ts) m (plainW ts) := by
  intro ts
  have : ∀ (ts : List (Int × Int × Int)) (s : RL) (ws : List Int), RI s m ws → (∀ t ∈ ts, (0 ≤ t.1 ∧ t.1 < 8) ∧ (0 ≤ t.2.1 ∧ t.2.1 < 65536)) → RI (ts.foldl (stepR m times) s) m (ts.foldl (fun ws t => ws.set t.1.toNat t.2.1) ws) := by
    intro ts
    induction ts with
    | nil => exact fun s ws h _ => h
    | cons t r ih => exact fun s ws h b => ih _ _ (h.step (b t List.mem_cons_self).1 (b t List.mem_cons_self).2) fun u hu => b u (List.mem_cons_of_mem _ hu)
  exact this ts _ _ (RI.start hm)
end Hx

set_option Elab.async false
set_option linter.all false
set_option maxRecDepth 100000
set_option maxHeartbeats 4000000
/-! the newest word of a register; deeds over plain words and open writes -/
namespace Hx
open PySem PySem.Spec PyProof.Rows L2
abbrev Wr := Int × Option Int
abbrev pwD (q : Wr) : PyData := .tuple [.int q.1, oD q.2]
def nstep (w : Nat) (f : Option Int) (q : Wr) : Option Int := if q.1 = (w : Int) then q.2 else f
def newest (words : List Int) (ws : List Wr) (w : Nat) : Option Int := ws.foldl (nstep w) (some (words.getD w 0))
theorem newest_go {cl : List (Option Int)} {w : Nat} : ∀ (ld : List Ln) (om nm : List Int), Chain om ld nm → (∀ r ∈ ld, 0 ≤ r.1 ∧ r.1 < 8) → om.length = 8 → w < 8 →
    (ld.map fun r => (r.1, at' cl r.2.1)).foldl (nstep w) (at' cl (om.getD w 0)) = at' cl (nm.getD w 0)
  | [], om, nm, h, _, _, _ => by rw [show nm = om from h]; rfl
  | (a, n, o) :: r, om, nm, h, hb, hl, hw => by
    have b : 0 ≤ a ∧ a < 8 := hb _ List.mem_cons_self
    have ih := newest_go (cl := cl) (w := w) r (om.set a.toNat n) nm h.2 (fun r hr => hb r (List.mem_cons_of_mem _ hr)) (by simpa using hl) hw
    rw [← ih, List.map_cons, List.foldl_cons]
    have e : nstep w (at' cl (om.getD w 0)) (a, at' cl n) = at' cl ((om.set a.toNat n).getD w 0) := by
      unfold nstep
      by_cases q : a = (w : Int)
      · have q2 : a.toNat = w := by omega
        rw [if_pos (show (a, at' cl n).1 = (w : Int) from q), q2, getD_set_eq (by omega)]
      · rw [if_neg (show ¬ (a, at' cl n).1 = (w : Int) from q), getD_set_ne (by omega)]
    exact congrArg (fun z => List.foldl (nstep w) z (r.map fun r => (r.1, at' cl r.2.1))) e
theorem Inv.word {S : RS} {m : Nat} {words : List Int} {ws : List Wr} (h : Inv S m words ws) {w : Nat} (hw : w < 8) : at' S.cl (S.om.getD w 0) = some (words.getD w 0) := by
  have l1 := h.len.1
  have l2 := h.ok.om
  have := congrArg (fun l => l[w]?) h.kw
  simp [l1, l2, hw] at this
  simpa [List.getD_eq_getElem?_getD, l1, l2, hw] using this
theorem newest_eq {S : RS} {m : Nat} {words : List Int} {ws : List Wr} (h : Inv S m words ws) {w : Nat} (hw : w < 8) : newest words ws w = at' S.cl (S.nm.getD w 0) := by
  unfold newest
  rw [← h.word hw, h.wr]
  exact newest_go S.ld S.om S.nm h.ch (fun r hr => (h.ok.bl r hr).1) h.ok.om hw
inductive Deed where
  | lend (w : Nat)
  | put (i : Nat) (v : Int)
  | undo
  | keep
  | write (w : Nat) (v : Int)
  | look (w : Nat)
def dV : Deed → List V
  | .lend w => [.str "lend", .int w]
  | .put i v => [.str "put", .int i, .int v]
  | .undo => [.str "undo"]
  | .keep => [.str "keep"]
  | .write w v => [.str "write", .int w, .int v]
  | .look w => [.str "look", .int w]
def Deed.ok (m : Nat) (ws : List Wr) : Deed → Prop
  | .lend w => w < 8 ∧ ws.length + 8 < m
  | .put i v => (∃ r, ws[i]? = some (r, none)) ∧ 0 ≤ v ∧ v < 65536
  | .undo => ws ≠ []
  | .keep => ∃ r v rs, ws = (r, some v) :: rs
  | .write w v => ws = [] ∧ w < 8 ∧ 0 ≤ v ∧ v < 65536
  | .look w => w < 8
def stepW (words : List Int) (ws : List Wr) : Deed → List Int × List Wr
  | .lend w => (words, ws ++ [((w : Int), none)])
  | .put i v => (words, ws.take i ++ [((ws.getD i (0, none)).1, some v)] ++ ws.drop (i + 1))
  | .undo => (words, ws.dropLast)
  | .keep => (words.set (ws.headD (0, none)).1.toNat ((ws.headD (0, none)).2.getD 0), ws.tail)
  | .write w v => (words.set w v, ws)
  | .look _ => (words, ws)
theorem cut_init (xs : List V) (h : xs ≠ []) : cutV xs none (some (-1)) = xs.dropLast := by
  have hl : 0 < xs.length := List.length_pos_iff.mpr h
  have e : HT.sIx xs.length xs.length (some (-1)) = xs.length - 1 := by
    show (if ((-1 : Int) < 0) then ((-1 : Int) + (xs.length : Int)).toNat else min (-1 : Int).toNat xs.length) = _
    rw [if_pos (by decide)]
    omega
  unfold cutV
  rw [e, HT.sIx_none, List.drop_zero, List.dropLast_eq_take]
  rfl
end Hx

set_option Elab.async false
set_option linter.all false
set_option maxRecDepth 100000
set_option maxHeartbeats 4000000
/-! what repr asks of nested tuples and lists of small things; sorted lists of places -/
namespace Hx
open PySem PySem.Spec PyProof.Rows L2
structure Sh (k b : Nat) (d : PyData) : Prop where
  sw : d.showable = true
  nd : d.hasDict = false
  dp : d.depth ≤ k
  ln : d.shown.length ≤ b
theorem Sh.mono {k b k' b' : Nat} {d : PyData} (x : Sh k b d) (h1 : k ≤ k') (h2 : b ≤ b') : Sh k' b' d := ⟨x.sw, x.nd, Nat.le_trans x.dp h1, Nat.le_trans x.ln h2⟩
theorem sh_num {n : Int} (h : 0 ≤ n ∧ n < 10 ^ 20) : Sh 0 20 (.int n) := ⟨by rw [PyData.showable]; exact decide_eq_true (log_small h), by rw [PyData.hasDict], by simp [PyData.depth], by
  rw [PyData.shown]; exact toString_length_le h.1 (by decide : 0 < 20) h.2⟩
theorem sh_non : Sh 0 20 .none := ⟨by rw [PyData.showable], by rw [PyData.hasDict], by simp [PyData.depth], by rw [PyData.shown]; decide⟩
theorem sh_all {k b : Nat} : ∀ {ds : List PyData}, (∀ d ∈ ds, Sh k b d) → PyData.showableAll ds = true ∧ PyData.hasDictAll ds = false ∧ PyData.depthAll ds ≤ k ∧ piled (PyData.shownAll ds) ≤ (b + 2) * ds.length
  | [], _ => ⟨rfl, rfl, by simp [PyData.depthAll], Nat.le_refl _⟩
  | d :: r, h => by
    obtain ⟨i1, i2, i3, i4⟩ := sh_all (ds := r) fun x hx => h x (List.mem_cons_of_mem _ hx)
    have x := h d List.mem_cons_self
    refine ⟨by rw [PyData.showableAll, x.sw, i1]; rfl, by rw [PyData.hasDictAll, x.nd, i2]; rfl, by rw [PyData.depthAll]; exact Nat.max_le.mpr ⟨x.dp, i3⟩, ?_⟩
    rw [PyData.shownAll, piled_cons, List.length_cons, Nat.mul_succ]
    have := x.ln
    omega
theorem sh_tup {k b : Nat} (m : Nat) {ds : List PyData} (h : ∀ d ∈ ds, Sh k b d) (hm : ds.length ≤ m) : Sh (k + 1) ((b + 2) * m + 3) (.tuple ds) := by
  obtain ⟨i1, i2, i3, i4⟩ := sh_all h
  refine ⟨by rw [PyData.showable]; exact i1, by rw [PyData.hasDict]; exact i2, by rw [PyData.depth]; omega, ?_⟩
  have i5 : (b + 2) * ds.length ≤ (b + 2) * m := Nat.mul_le_mul_left _ hm
  rw [PyData.shown]
  unfold tupleText
  rw [strLen_append, strLen_append]
  have e1 : (("(" : String) : Str).length = 1 := rfl
  have e2 : ∀ c : Bool, ((if c = true then ",)" else ")" : String) : Str).length ≤ 2 := fun c => by cases c <;> decide
  have e3 : (Str.join ", " (PyData.shownAll ds)).length ≤ piled (PyData.shownAll ds) := by
    by_cases z : PyData.shownAll ds = []
    · rw [z]; exact Nat.le_refl 0
    · have := join_length_add _ z
      omega
  have := e2 ((PyData.shownAll ds).length == 1)
  rw [e1]
  omega
/-- a sorted list of the places below m, each once -/
theorem sorted_range {ns xs : List Int} {m : Nat} (hp : ns.Perm xs) (hs : ns.Pairwise (· ≤ ·)) (nd : xs.Nodup) (hl : xs.length = m) (hb : ∀ x ∈ xs, 0 ≤ x ∧ x < m) : ns = (List.range m).map fun i : Nat => (i : Int) := by
  have hn : ns.Nodup := hp.symm.nodup nd
  have h2 : ns.Pairwise (· < ·) := (hs.and hn).imp fun {a b} h => by have := h.1; have h3 : a ≠ b := h.2; omega
  have hb2 : ∀ x ∈ ns, 0 ≤ x ∧ x < m := fun x hx => hb x (hp.mem_iff.mp hx)
  have hl2 : ns.length = m := hp.length_eq.trans hl
  -- a rising list of so many below m
  have key : ∀ (ns : List Int) (a m : Int), ns.Pairwise (· < ·) → (∀ x ∈ ns, a ≤ x ∧ x < m) → (ns.length : Int) = m - a → ∀ i (h : i < ns.length), ns[i] = a + i := by
    intro ns
    induction ns with
    | nil => intro a m _ _ _ i h; simp at h
    | cons y r ih =>
      intro a m hs hb hl i h
      obtain ⟨h1, h2⟩ := List.pairwise_cons.mp hs
      have hy := hb y List.mem_cons_self
      have gap : ∀ (r : List Int) (y m : Int), r.Pairwise (· < ·) → (∀ x ∈ r, y < x ∧ x < m) → (r.length : Int) ≤ m - y - 1 ∨ r = [] := by
        intro r
        induction r with
        | nil => intro _ _ _ _; exact .inr rfl
        | cons z q ih2 =>
          intro y m hs hb
          obtain ⟨g1, g2⟩ := List.pairwise_cons.mp hs
          have hz := hb z List.mem_cons_self
          left
          rcases ih2 z m g2 (fun x hx => ⟨g1 x hx, (hb x (List.mem_cons_of_mem _ hx)).2⟩) with q1 | q1
          · rw [List.length_cons]; omega
          · rw [q1]; simp; omega
      have hya : y = a := by
        rw [List.length_cons] at hl
        rcases gap r y m h2 (fun x hx => ⟨h1 x hx, (hb x (List.mem_cons_of_mem _ hx)).2⟩) with q1 | q1
        · omega
        · rw [q1] at hl; simp at hl; omega
      subst hya
      cases i with
      | zero => simp
      | succ j =>
        rw [List.getElem_cons_succ, ih (y + 1) m h2 (fun x hx => ⟨by have := h1 x hx; omega, (hb x (List.mem_cons_of_mem _ hx)).2⟩) (by rw [List.length_cons] at hl; omega)]
        omega
  apply List.ext_getElem (by simp [hl2])
  intro i h3 h4
  rw [key ns 0 m h2 hb2 (by omega) i h3]
  simp
/-! ### an own == beside a tuple -/
theorem op_eqOwnT {X : Cx} {n : Nat} {C f : Addr} {fd : FuncData} {ps : List Str} {sp : Sp} (F : FnOk X.prog X.w X.K X.mg X.base CX0 n f fd ps sp) (hr : Room n X.A)
    (hs : PySem.W.findIn X.K (.ref C) "__eq__" = some (some (.ref f))) (hf : PySem.W.isFn X.K (.ref f) = true) (hb : Binds X.K fd ps []) (hsl : PySem.W.subIn X.K (.type "tuple") (.ref C) = some false) :
    OpR X (compareOp .Eq) (fun x y H Q => ∃ a b dx fs xs, x = .ref a ∧ y = .ref b ∧ H a = some (.ins C dx fs) ∧ H b = some (.tup xs) ∧ sp [.ref a, .ref b] H (fun v H' => ∃ c, v = .bl c ∧ Q (.bl c) H') (fun _ _ _ => False)) := by
  intro pins s σ H x y v u Q I rx ry h
  obtain ⟨a, b, dx, fs, xs, rfl, rfl, ha, hb', hsp⟩ := h
  cases rx
  cases ry
  obtain ⟨mA, J, _⟩ := ins_get I.hok ha
  obtain ⟨od, J, _⟩ := J.look
  obtain ⟨_, _, nn, _, h1, hc, _⟩ := (show ObjOk X.prog X.w H s.heap b (.tup xs) from I.hok b _ hb')
  obtain ⟨m, hF⟩ := I.fr
  have hu := hr.un
  refine PySem.W.cmp_K (op := .Eq) (tb := .type "tuple") (by omega) hF I.ok.mod.kin J (fun A Q E s k q => wpAny_typeOf_ref (k _ _ h1) (by rw [hc]; exact q)) (by simp [PySem.W.notFirst, hsl]) hs hf ?_
  have hl := F.len _ _ _ _ hsp
  have r2 : Vals [V.ref a, V.ref b] [Value.ref a, Value.ref b] := .cons rfl (.cons rfl .nil)
  have hB : BindsTo s fd ⟨[.ref a, .ref b], []⟩ (ps.zip [.ref a, .ref b]) := by
    have := hb s [.ref a, .ref b] I.kIn (by simpa using hl)
    simpa using this
  refine wpAny_call (codeAny_mono (F.run X.A X.stack s H ⟨[.ref a, .ref b], []⟩ [.ref a, .ref b] [.ref a, .ref b] _ _ hr I.env0 hB r2 hsp) fun r s' hq => ?_)
  match r, hq with
  | .ok (.ret w), hq =>
    obtain ⟨z, H', I', rz, c, rfl, q⟩ := I.after hq
    cases rz
    exact ⟨.bl c, H', I', rfl, q⟩
  | .error e, hq => exact False.elim hq
  | .ok .next, hq => exact False.elim hq
  | .ok .brk, hq => exact False.elim hq
  | .ok .cont, hq => exact False.elim hq
theorem kit_notT {K : PySem.W.Frag} {C : Addr} (h1 : PySem.W.isClsIn K C = true) (h2 : PySem.W.typeIn K (.ref C) = some (.type "type")) (h3 : PySem.W.subIn K (.type "tuple") (.ref C) = some false) : PySem.W.kitOne K (.type "tuple") (.ref C) = some false := by
  have e : ((PySem.W.clsIn K C).isSome && PySem.W.typeIn K (.ref C) == some (.type "type")) = true := by
    have h1' : (PySem.W.clsIn K C).isSome = true := h1
    rw [h1', h2] <;> rfl
  show (if ((Value.type "tuple" == .ref C) = true) then some true else (if ((PySem.W.clsIn K C).isSome && PySem.W.typeIn K (.ref C) == some (.type "type")) = true then PySem.W.subIn K (.type "tuple") (.ref C) else none)) = some false
  rw [if_neg (by intro z; cases z), if_pos e]
  exact h3
end Hx

set_option Elab.async false
set_option linter.all false
set_option maxRecDepth 100000
set_option maxHeartbeats 8000000

namespace K67
open PySem PySem.Spec PyProof.Rows L2 Hx
def top (i : Nat) : Stmt := PySem.Challenge.pw_orderlycore_k67_whole_cells_lent_and_bac.main.body.getD i (.Pass ⟨0, 0, 0, 0⟩)
abbrev s_is_integer : Stmt := top 15
theorem sc_is_integer : FnScope ["value"] ["value"] (defScope s_is_integer) := ⟨rfl, rfl, rfl, by decide +kernel, rfl, by decide +kernel, by decide +kernel⟩
abbrev s_is_between : Stmt := top 16
theorem sc_is_between : FnScope ["value", "least", "most"] ["value", "least", "most"] (defScope s_is_between) := ⟨rfl, rfl, rfl, by decide +kernel, rfl, by decide +kernel, by decide +kernel⟩
abbrev s_need_many : Stmt := top 17
theorem sc_need_many : FnScope ["value", "least", "most"] ["value", "least", "most"] (defScope s_need_many) := ⟨rfl, rfl, rfl, by decide +kernel, rfl, by decide +kernel, by decide +kernel⟩
abbrev s_is_word : Stmt := top 21
theorem sc_is_word : FnScope ["value"] ["value"] (defScope s_is_word) := ⟨rfl, rfl, rfl, by decide +kernel, rfl, by decide +kernel, by decide +kernel⟩
abbrev s_is_register : Stmt := top 22
theorem sc_is_register : FnScope ["value"] ["value"] (defScope s_is_register) := ⟨rfl, rfl, rfl, by decide +kernel, rfl, by decide +kernel, by decide +kernel⟩
abbrev s_need_word : Stmt := top 23
theorem sc_need_word : FnScope ["value"] ["value"] (defScope s_need_word) := ⟨rfl, rfl, rfl, by decide +kernel, rfl, by decide +kernel, by decide +kernel⟩
abbrev s_need_register : Stmt := top 24
theorem sc_need_register : FnScope ["value"] ["value"] (defScope s_need_register) := ⟨rfl, rfl, rfl, by decide +kernel, rfl, by decide +kernel, by decide +kernel⟩
abbrev s_Renamer_init : Stmt := inClass (top 28) 0
theorem sc_Renamer_init : FnScope ["self", "many"] ["self", "many"] (defScope s_Renamer_init) := ⟨rfl, rfl, rfl, by decide +kernel, rfl, by decide +kernel, by decide +kernel⟩
abbrev s_Renamer_place_of : Stmt := inClass (top 28) 2
theorem sc_Renamer_place_of : FnScope ["self", "which"] ["self", "which"] (defScope s_Renamer_place_of) := ⟨rfl, rfl, rfl, by decide +kernel, rfl, by decide +kernel, by decide +kernel⟩
abbrev s_Renamer_lent : Stmt := inClass (top 28) 3
theorem sc_Renamer_lent : FnScope ["self", "which", "new", "old"] ["self", "which"] (defScope s_Renamer_lent) := ⟨rfl, rfl, rfl, by decide +kernel, rfl, by decide +kernel, by decide +kernel⟩
abbrev s_Renamer_put : Stmt := inClass (top 28) 4
theorem sc_Renamer_put : FnScope ["self", "at", "value"] ["self", "at", "value"] (defScope s_Renamer_put) := ⟨rfl, rfl, rfl, by decide +kernel, rfl, by decide +kernel, by decide +kernel⟩
abbrev s_Renamer_undone : Stmt := inClass (top 28) 7
theorem sc_Renamer_undone : FnScope ["self", "which", "new", "old"] ["self", "which", "new", "old"] (defScope s_Renamer_undone) := ⟨rfl, rfl, rfl, by decide +kernel, rfl, by decide +kernel, by decide +kernel⟩
abbrev s_Renamer_kept : Stmt := inClass (top 28) 8
theorem sc_Renamer_kept : FnScope ["self", "which", "new", "old"] ["self", "which", "new", "old"] (defScope s_Renamer_kept) := ⟨rfl, rfl, rfl, by decide +kernel, rfl, by decide +kernel, by decide +kernel⟩
abbrev s_Renamer_written : Stmt := inClass (top 28) 9
theorem sc_Renamer_written : FnScope ["self", "which", "value"] ["self", "which", "value"] (defScope s_Renamer_written) := ⟨rfl, rfl, rfl, by decide +kernel, rfl, by decide +kernel, by decide +kernel⟩
abbrev s_Renamer_lendings : Stmt := inClass (top 28) 12
theorem sc_Renamer_lendings : FnScope ["self"] ["self"] (defScope s_Renamer_lendings) := ⟨rfl, rfl, rfl, by decide +kernel, rfl, by decide +kernel, by decide +kernel⟩
abbrev s_Renamer_free : Stmt := inClass (top 28) 13
theorem sc_Renamer_free : FnScope ["self"] ["self"] (defScope s_Renamer_free) := ⟨rfl, rfl, rfl, by decide +kernel, rfl, by decide +kernel, by decide +kernel⟩
abbrev s_Renamer_told : Stmt := inClass (top 28) 14
theorem sc_Renamer_told : FnScope ["self"] ["self"] (defScope s_Renamer_told) := ⟨rfl, rfl, rfl, by decide +kernel, rfl, by decide +kernel, by decide +kernel⟩
abbrev s_Renamer_copy : Stmt := inClass (top 28) 15
theorem sc_Renamer_copy : FnScope ["self", "made"] ["self"] (defScope s_Renamer_copy) := ⟨rfl, rfl, rfl, by decide +kernel, rfl, by decide +kernel, by decide +kernel⟩
abbrev s_Renamer_eq : Stmt := inClass (top 28) 16
theorem sc_Renamer_eq : FnScope ["self", "other"] ["self", "other"] (defScope s_Renamer_eq) := ⟨rfl, rfl, rfl, by decide +kernel, rfl, by decide +kernel, by decide +kernel⟩
abbrev s_Renamerneed_cell : Stmt := inClass (top 28) 17
theorem sc_Renamerneed_cell : FnScope ["self", "value"] ["self", "value"] (defScope s_Renamerneed_cell) := ⟨rfl, rfl, rfl, by decide +kernel, rfl, by decide +kernel, by decide +kernel⟩
abbrev s_Renamerneed_lending : Stmt := inClass (top 28) 18
theorem sc_Renamerneed_lending : FnScope ["self", "which", "new", "old"] ["self", "which", "new", "old"] (defScope s_Renamerneed_lending) := ⟨rfl, rfl, rfl, by decide +kernel, rfl, by decide +kernel, by decide +kernel⟩
abbrev s_Lpot : Stmt := top 30
theorem sc_Lpot : FnScope ["_law_script", "_law_k", "_law_cell", "_law_mixed"] ["_law_script", "_law_k"] (defScope s_Lpot) := ⟨rfl, rfl, rfl, by decide +kernel, rfl, by decide +kernel, by decide +kernel⟩
abbrev s_Ldraw : Stmt := top 31
theorem sc_Ldraw : FnScope ["_law_pot_here", "_law_size", "_law_digit"] ["_law_pot_here", "_law_size"] (defScope s_Ldraw) := ⟨rfl, rfl, rfl, by decide +kernel, rfl, by decide +kernel, by decide +kernel⟩
abbrev s_Lpick : Stmt := top 32
theorem sc_Lpick : FnScope ["_law_pot_here", "_law_some"] ["_law_pot_here", "_law_some"] (defScope s_Lpick) := ⟨rfl, rfl, rfl, by decide +kernel, rfl, by decide +kernel, by decide +kernel⟩
abbrev s_Ldeed : Stmt := top 33
theorem sc_Ldeed : FnScope ["_law_pot_here", "_law_many", "_law_writes", "_law_at", "_law_way", "_law_waiting", "_law_which", "_law_one"] ["_law_pot_here", "_law_many", "_law_writes"] (defScope s_Ldeed) := ⟨rfl, rfl, rfl, by decide +kernel, rfl, by decide +kernel, by decide +kernel⟩
abbrev s_Lbegun : Stmt := top 34
theorem sc_Lbegun : FnScope ["_law_many", "_law_words"] ["_law_many"] (defScope s_Lbegun) := ⟨rfl, rfl, rfl, by decide +kernel, rfl, by decide +kernel, by decide +kernel⟩
abbrev s_Llent : Stmt := top 35
theorem sc_Llent : FnScope ["_law_own", "_law_which", "_law_new", "_law_old"] ["_law_own", "_law_which"] (defScope s_Llent) := ⟨rfl, rfl, rfl, by decide +kernel, rfl, by decide +kernel, by decide +kernel⟩
abbrev s_Lundone : Stmt := top 36
theorem sc_Lundone : FnScope ["_law_own", "_law_which", "_law_new", "_law_old"] ["_law_own"] (defScope s_Lundone) := ⟨rfl, rfl, rfl, by decide +kernel, rfl, by decide +kernel, by decide +kernel⟩
abbrev s_Lkept : Stmt := top 37
theorem sc_Lkept : FnScope ["_law_own", "_law_which", "_law_new", "_law_old"] ["_law_own"] (defScope s_Lkept) := ⟨rfl, rfl, rfl, by decide +kernel, rfl, by decide +kernel, by decide +kernel⟩
abbrev s_Ldone : Stmt := top 38
theorem sc_Ldone : FnScope ["_law_renamer", "_law_own", "_law_deed_here", "_law_due", "_law_cell", "_law_which", "_law_new", "_law_old"] ["_law_renamer", "_law_own", "_law_deed_here"] (defScope s_Ldone) := ⟨rfl, rfl, rfl, by decide +kernel, rfl, by decide +kernel, by decide +kernel⟩
abbrev s_Ltold : Stmt := top 39
theorem sc_Ltold : FnScope ["_law_own"] ["_law_own"] (defScope s_Ltold) := ⟨rfl, rfl, rfl, by decide +kernel, rfl, by decide +kernel, by decide +kernel⟩
abbrev s_Lshows : Stmt := top 40
theorem sc_Lshows : FnScope ["_law_renamer", "_law_own", "_law_many", "_law_cells", "_law_which", "_law_new", "_law_old"] ["_law_renamer", "_law_own", "_law_many"] (defScope s_Lshows) := ⟨rfl, rfl, rfl, by decide +kernel, rfl, by decide +kernel, by decide +kernel⟩
abbrev s_Lright : Stmt := top 41
theorem sc_Lright : FnScope ["_law_pot_here", "_law_many", "_law_renamer", "_law_own", "_law_elder", "_law_told_here", "_law_turn", "_law_writes", "_law_deed_here", "_law_which", "_law_new", "_law_old"] ["_law_pot_here"] (defScope s_Lright) := ⟨rfl, rfl, rfl, by decide +kernel, rfl, by decide +kernel, by decide +kernel⟩
abbrev s_law : Stmt := top 42
theorem sc_law : FnScope ["_law_script"] ["_law_script"] (defScope s_law) := ⟨rfl, rfl, rfl, by decide +kernel, rfl, by decide +kernel, by decide +kernel⟩
abbrev F_Renamer (v0 v1 v2 v3 v4 : V) : List (Str × V) := [("_new_map", v0), ("_old_map", v1), ("_free", v2), ("_lendings", v3), ("_cells", v4)]
theorem gt_Renamer_new_map {v0 v1 v2 v3 v4 : V} : (F_Renamer v0 v1 v2 v3 v4).lookup ("_new_map" : Str) = some v0 := rfl
theorem pu_Renamer_new_map {v0 v1 v2 v3 v4 u : V} : putF "_new_map" u (F_Renamer v0 v1 v2 v3 v4) = F_Renamer u v1 v2 v3 v4 := rfl
theorem pi_Renamer_new_map {v0 : V} : putF "_new_map" v0 [] = ([("_new_map", v0)] : List (Str × V)) := rfl
theorem gt_Renamer_old_map {v0 v1 v2 v3 v4 : V} : (F_Renamer v0 v1 v2 v3 v4).lookup ("_old_map" : Str) = some v1 := rfl
theorem pu_Renamer_old_map {v0 v1 v2 v3 v4 u : V} : putF "_old_map" u (F_Renamer v0 v1 v2 v3 v4) = F_Renamer v0 u v2 v3 v4 := rfl
theorem pi_Renamer_old_map {v0 v1 : V} : putF "_old_map" v1 [("_new_map", v0)] = ([("_new_map", v0), ("_old_map", v1)] : List (Str × V)) := rfl
theorem gt_Renamer_free {v0 v1 v2 v3 v4 : V} : (F_Renamer v0 v1 v2 v3 v4).lookup ("_free" : Str) = some v2 := rfl
theorem pu_Renamer_free {v0 v1 v2 v3 v4 u : V} : putF "_free" u (F_Renamer v0 v1 v2 v3 v4) = F_Renamer v0 v1 u v3 v4 := rfl
theorem pi_Renamer_free {v0 v1 v2 : V} : putF "_free" v2 [("_new_map", v0), ("_old_map", v1)] = ([("_new_map", v0), ("_old_map", v1), ("_free", v2)] : List (Str × V)) := rfl
theorem gt_Renamer_lendings {v0 v1 v2 v3 v4 : V} : (F_Renamer v0 v1 v2 v3 v4).lookup ("_lendings" : Str) = some v3 := rfl
theorem pu_Renamer_lendings {v0 v1 v2 v3 v4 u : V} : putF "_lendings" u (F_Renamer v0 v1 v2 v3 v4) = F_Renamer v0 v1 v2 u v4 := rfl
theorem pi_Renamer_lendings {v0 v1 v2 v3 : V} : putF "_lendings" v3 [("_new_map", v0), ("_old_map", v1), ("_free", v2)] = ([("_new_map", v0), ("_old_map", v1), ("_free", v2), ("_lendings", v3)] : List (Str × V)) := rfl
theorem gt_Renamer_cells {v0 v1 v2 v3 v4 : V} : (F_Renamer v0 v1 v2 v3 v4).lookup ("_cells" : Str) = some v4 := rfl
theorem pu_Renamer_cells {v0 v1 v2 v3 v4 u : V} : putF "_cells" u (F_Renamer v0 v1 v2 v3 v4) = F_Renamer v0 v1 v2 v3 u := rfl
theorem pi_Renamer_cells {v0 v1 v2 v3 v4 : V} : putF "_cells" v4 [("_new_map", v0), ("_old_map", v1), ("_free", v2), ("_lendings", v3)] = F_Renamer v0 v1 v2 v3 v4 := rfl
structure Txt (K : PySem.W.Frag) (mg : Str → Option Value) where
  C_Renamer : Addr
  cl_Renamer : Cls K C_Renamer
  g_Renamer : mg "Renamer" = some (.ref C_Renamer)
  n_Renamer_new_map : NoAttr K C_Renamer "_new_map"
  n_Renamer_old_map : NoAttr K C_Renamer "_old_map"
  n_Renamer_free : NoAttr K C_Renamer "_free"
  n_Renamer_lendings : NoAttr K C_Renamer "_lendings"
  n_Renamer_cells : NoAttr K C_Renamer "_cells"
  f_is_integer : Addr
  fd_is_integer : FuncData
  F_is_integer : Fun K "is_integer" "is_integer" s_is_integer f_is_integer fd_is_integer
  g_is_integer : mg "is_integer" = some (.ref f_is_integer)
  b_is_integer : Binds K fd_is_integer ["value"] []
  f_is_between : Addr
  fd_is_between : FuncData
  F_is_between : Fun K "is_between" "is_between" s_is_between f_is_between fd_is_between
  g_is_between : mg "is_between" = some (.ref f_is_between)
  b_is_between : Binds K fd_is_between ["value", "least", "most"] []
  f_need_many : Addr
  fd_need_many : FuncData
  F_need_many : Fun K "need_many" "need_many" s_need_many f_need_many fd_need_many
  g_need_many : mg "need_many" = some (.ref f_need_many)
  b_need_many : Binds K fd_need_many ["value", "least", "most"] []
  f_is_word : Addr
  fd_is_word : FuncData
  F_is_word : Fun K "is_word" "is_word" s_is_word f_is_word fd_is_word
  g_is_word : mg "is_word" = some (.ref f_is_word)
  b_is_word : Binds K fd_is_word ["value"] []
  f_is_register : Addr
  fd_is_register : FuncData
  F_is_register : Fun K "is_register" "is_register" s_is_register f_is_register fd_is_register
  g_is_register : mg "is_register" = some (.ref f_is_register)
  b_is_register : Binds K fd_is_register ["value"] []
  f_need_word : Addr
  fd_need_word : FuncData
  F_need_word : Fun K "need_word" "need_word" s_need_word f_need_word fd_need_word
  g_need_word : mg "need_word" = some (.ref f_need_word)
  b_need_word : Binds K fd_need_word ["value"] []
  f_need_register : Addr
  fd_need_register : FuncData
  F_need_register : Fun K "need_register" "need_register" s_need_register f_need_register fd_need_register
  g_need_register : mg "need_register" = some (.ref f_need_register)
  b_need_register : Binds K fd_need_register ["value"] []
  f_Renamer_init : Addr
  fd_Renamer_init : FuncData
  F_Renamer_init : Fun K "__init__" "Renamer.__init__" s_Renamer_init f_Renamer_init fd_Renamer_init
  b_Renamer_init : Binds K fd_Renamer_init ["self", "many"] []
  mk_Renamer : Mk K C_Renamer f_Renamer_init
  f_Renamer_place_of : Addr
  fd_Renamer_place_of : FuncData
  F_Renamer_place_of : Fun K "place_of" "Renamer.place_of" s_Renamer_place_of f_Renamer_place_of fd_Renamer_place_of
  b_Renamer_place_of : Binds K fd_Renamer_place_of ["self", "which"] []
  me_Renamer_place_of : Meth K C_Renamer "place_of" f_Renamer_place_of
  f_Renamer_lent : Addr
  fd_Renamer_lent : FuncData
  F_Renamer_lent : Fun K "lent" "Renamer.lent" s_Renamer_lent f_Renamer_lent fd_Renamer_lent
  b_Renamer_lent : Binds K fd_Renamer_lent ["self", "which"] []
  me_Renamer_lent : Meth K C_Renamer "lent" f_Renamer_lent
  f_Renamer_put : Addr
  fd_Renamer_put : FuncData
  F_Renamer_put : Fun K "put" "Renamer.put" s_Renamer_put f_Renamer_put fd_Renamer_put
  b_Renamer_put : Binds K fd_Renamer_put ["self", "at", "value"] []
  me_Renamer_put : Meth K C_Renamer "put" f_Renamer_put
  f_Renamer_undone : Addr
  fd_Renamer_undone : FuncData
  F_Renamer_undone : Fun K "undone" "Renamer.undone" s_Renamer_undone f_Renamer_undone fd_Renamer_undone
  b_Renamer_undone : Binds K fd_Renamer_undone ["self", "which", "new", "old"] []
  kp_Renamer_undone_1_210 : KBinds K fd_Renamer_undone ["self", "which", "new", "old"] ["old", "new", "which"] (kwP 1 [2, 1, 0]) (kwP 1 [2, 1, 0])
  me_Renamer_undone : Meth K C_Renamer "undone" f_Renamer_undone
  f_Renamer_kept : Addr
  fd_Renamer_kept : FuncData
  F_Renamer_kept : Fun K "kept" "Renamer.kept" s_Renamer_kept f_Renamer_kept fd_Renamer_kept
  b_Renamer_kept : Binds K fd_Renamer_kept ["self", "which", "new", "old"] []
  me_Renamer_kept : Meth K C_Renamer "kept" f_Renamer_kept
  f_Renamer_written : Addr
  fd_Renamer_written : FuncData
  F_Renamer_written : Fun K "written" "Renamer.written" s_Renamer_written f_Renamer_written fd_Renamer_written
  b_Renamer_written : Binds K fd_Renamer_written ["self", "which", "value"] []
  kbr_Renamer_written : KBinds K fd_Renamer_written ["self", "which", "value"] ["value", "which"] kwR kwR
  me_Renamer_written : Meth K C_Renamer "written" f_Renamer_written
  f_Renamer_lendings : Addr
  fd_Renamer_lendings : FuncData
  F_Renamer_lendings : Fun K "lendings" "Renamer.lendings" s_Renamer_lendings f_Renamer_lendings fd_Renamer_lendings
  b_Renamer_lendings : Binds K fd_Renamer_lendings ["self"] []
  me_Renamer_lendings : Meth K C_Renamer "lendings" f_Renamer_lendings
  f_Renamer_free : Addr
  fd_Renamer_free : FuncData
  F_Renamer_free : Fun K "free" "Renamer.free" s_Renamer_free f_Renamer_free fd_Renamer_free
  b_Renamer_free : Binds K fd_Renamer_free ["self"] []
  me_Renamer_free : Meth K C_Renamer "free" f_Renamer_free
  f_Renamer_told : Addr
  fd_Renamer_told : FuncData
  F_Renamer_told : Fun K "told" "Renamer.told" s_Renamer_told f_Renamer_told fd_Renamer_told
  b_Renamer_told : Binds K fd_Renamer_told ["self"] []
  me_Renamer_told : Meth K C_Renamer "told" f_Renamer_told
  f_Renamer_copy : Addr
  fd_Renamer_copy : FuncData
  F_Renamer_copy : Fun K "copy" "Renamer.copy" s_Renamer_copy f_Renamer_copy fd_Renamer_copy
  b_Renamer_copy : Binds K fd_Renamer_copy ["self"] []
  me_Renamer_copy : Meth K C_Renamer "copy" f_Renamer_copy
  f_Renamer_eq : Addr
  fd_Renamer_eq : FuncData
  F_Renamer_eq : Fun K "__eq__" "Renamer.__eq__" s_Renamer_eq f_Renamer_eq fd_Renamer_eq
  b_Renamer_eq : Binds K fd_Renamer_eq ["self", "other"] []
  me_Renamer_eq : Meth K C_Renamer "__eq__" f_Renamer_eq
  f_Renamerneed_cell : Addr
  fd_Renamerneed_cell : FuncData
  F_Renamerneed_cell : Fun K "_need_cell" "Renamer._need_cell" s_Renamerneed_cell f_Renamerneed_cell fd_Renamerneed_cell
  b_Renamerneed_cell : Binds K fd_Renamerneed_cell ["self", "value"] []
  me_Renamerneed_cell : Meth K C_Renamer "_need_cell" f_Renamerneed_cell
  f_Renamerneed_lending : Addr
  fd_Renamerneed_lending : FuncData
  F_Renamerneed_lending : Fun K "_need_lending" "Renamer._need_lending" s_Renamerneed_lending f_Renamerneed_lending fd_Renamerneed_lending
  b_Renamerneed_lending : Binds K fd_Renamerneed_lending ["self", "which", "new", "old"] []
  me_Renamerneed_lending : Meth K C_Renamer "_need_lending" f_Renamerneed_lending
  f_Lpot : Addr
  fd_Lpot : FuncData
  F_Lpot : Fun K "_law_pot" "_law_pot" s_Lpot f_Lpot fd_Lpot
  g_Lpot : mg "_law_pot" = some (.ref f_Lpot)
  b_Lpot : Binds K fd_Lpot ["_law_script", "_law_k"] []
  f_Ldraw : Addr
  fd_Ldraw : FuncData
  F_Ldraw : Fun K "_law_draw" "_law_draw" s_Ldraw f_Ldraw fd_Ldraw
  g_Ldraw : mg "_law_draw" = some (.ref f_Ldraw)
  b_Ldraw : Binds K fd_Ldraw ["_law_pot_here", "_law_size"] []
  f_Lpick : Addr
  fd_Lpick : FuncData
  F_Lpick : Fun K "_law_pick" "_law_pick" s_Lpick f_Lpick fd_Lpick
  g_Lpick : mg "_law_pick" = some (.ref f_Lpick)
  b_Lpick : Binds K fd_Lpick ["_law_pot_here", "_law_some"] []
  f_Ldeed : Addr
  fd_Ldeed : FuncData
  F_Ldeed : Fun K "_law_deed" "_law_deed" s_Ldeed f_Ldeed fd_Ldeed
  g_Ldeed : mg "_law_deed" = some (.ref f_Ldeed)
  b_Ldeed : Binds K fd_Ldeed ["_law_pot_here", "_law_many", "_law_writes"] []
  f_Lbegun : Addr
  fd_Lbegun : FuncData
  F_Lbegun : Fun K "_law_begun" "_law_begun" s_Lbegun f_Lbegun fd_Lbegun
  g_Lbegun : mg "_law_begun" = some (.ref f_Lbegun)
  b_Lbegun : Binds K fd_Lbegun ["_law_many"] []
  f_Llent : Addr
  fd_Llent : FuncData
  F_Llent : Fun K "_law_lent" "_law_lent" s_Llent f_Llent fd_Llent
  g_Llent : mg "_law_lent" = some (.ref f_Llent)
  b_Llent : Binds K fd_Llent ["_law_own", "_law_which"] []
  f_Lundone : Addr
  fd_Lundone : FuncData
  F_Lundone : Fun K "_law_undone" "_law_undone" s_Lundone f_Lundone fd_Lundone
  g_Lundone : mg "_law_undone" = some (.ref f_Lundone)
  b_Lundone : Binds K fd_Lundone ["_law_own"] []
  f_Lkept : Addr
  fd_Lkept : FuncData
  F_Lkept : Fun K "_law_kept" "_law_kept" s_Lkept f_Lkept fd_Lkept
  g_Lkept : mg "_law_kept" = some (.ref f_Lkept)
  b_Lkept : Binds K fd_Lkept ["_law_own"] []
  f_Ldone : Addr
  fd_Ldone : FuncData
  F_Ldone : Fun K "_law_done" "_law_done" s_Ldone f_Ldone fd_Ldone
  g_Ldone : mg "_law_done" = some (.ref f_Ldone)
  b_Ldone : Binds K fd_Ldone ["_law_renamer", "_law_own", "_law_deed_here"] []
  f_Ltold : Addr
  fd_Ltold : FuncData
  F_Ltold : Fun K "_law_told" "_law_told" s_Ltold f_Ltold fd_Ltold
  g_Ltold : mg "_law_told" = some (.ref f_Ltold)
  b_Ltold : Binds K fd_Ltold ["_law_own"] []
  f_Lshows : Addr
  fd_Lshows : FuncData
  F_Lshows : Fun K "_law_shows" "_law_shows" s_Lshows f_Lshows fd_Lshows
  g_Lshows : mg "_law_shows" = some (.ref f_Lshows)
  b_Lshows : Binds K fd_Lshows ["_law_renamer", "_law_own", "_law_many"] []
  f_Lright : Addr
  fd_Lright : FuncData
  F_Lright : Fun K "_law_right" "_law_right" s_Lright f_Lright fd_Lright
  g_Lright : mg "_law_right" = some (.ref f_Lright)
  b_Lright : Binds K fd_Lright ["_law_pot_here"] []
  f_law : Addr
  fd_law : FuncData
  F_law : Fun K "law" "law" s_law f_law fd_law
  g_law : mg "law" = some (.ref f_law)
  b_law : Binds K fd_law ["_law_script"] []
  m_abs : mg "abs" = none
  m_bool : mg "bool" = none
  m_divmod : mg "divmod" = none
  m_enumerate : mg "enumerate" = none
  m_int : mg "int" = none
  m_isinstance : mg "isinstance" = none
  m_len : mg "len" = none
  m_list : mg "list" = none
  m_max : mg "max" = none
  m_range : mg "range" = none
  m_repr : mg "repr" = none
  m_sorted : mg "sorted" = none
  m_tuple : mg "tuple" = none
  c_WORDS : ∃ t, mg "WORDS" = some (.int 65536 t)
  c_REGISTERS : ∃ t, mg "REGISTERS" = some (.int 8 t)
  c__LEAST_CELLS : ∃ t, mg "_LEAST_CELLS" = some (.int 9 t)
  c__MOST_CELLS : ∃ t, mg "_MOST_CELLS" = some (.int 48 t)
  ic_Renamer : PySem.W.findIn K (.ref C_Renamer) "__class__" = some (some (.builtin "object.__class__"))
  in_Renamer : PySem.W.specialIn K (.builtin "object.__class__") "__get__" = some (some (.builtin "getset_descriptor.__get__"))
  it_Renamer : PySem.W.takesIn K (.builtin "object.__class__") = some true
  im_Renamer : PySem.W.mroIn K C_Renamer (.type "object") = some true
  sl_Renamer : PySem.W.subIn K (.type "tuple") (.ref C_Renamer) = some false
  ik_Renamer : PySem.W.isClsIn K C_Renamer = true
  ty_Renamer : PySem.W.typeIn K (.ref C_Renamer) = some (.type "type")
def rn (C x dx n o f l c : Addr) (S : RS) : List (Addr × Ob) := [(x, .raw (.ins C dx (F_Renamer (.ref n) (.ref o) (.ref f) (.ref l) (.ref c)))), (n, .raw (.lst (S.nm.map V.int))), (o, .raw (.lst (S.om.map V.int))), (f, .raw (.lst (S.fr.map V.int))), (l, .L (S.ld.map lnD)), (c, .raw (.lst (S.cl.map oV)))]
def rIsN : V → V → Hp → VK → Prop := fun x y H Q => y = .non ∧ Q (.bl (decide (x = .non))) H
def rNotN : V → V → Hp → VK → Prop := fun x y H Q => y = .non ∧ Q (.bl (!decide (x = .non))) H
def on (x n o f l c : Addr) (S : RS) : List (Addr × Ob) := [(x, .raw (.lst [.ref n, .ref o, .ref f, .ref l, .ref c])), (n, .raw (.lst (S.nm.map V.int))), (o, .raw (.lst (S.om.map V.int))), (f, .raw (.lst (S.fr.map V.int))), (l, .L (S.ld.map lnD)), (c, .raw (.lst (S.cl.map oV)))]

end K67

set_option Elab.async false
set_option linter.all false
set_option maxRecDepth 100000
set_option maxHeartbeats 8000000

namespace K67
open PySem PySem.Spec PyProof.Rows L2 Hx 
local macro_rules | `(tactic| walk_at "sm") => `(tactic| repeat' (first | assumption | apply Hx.Same.upd | exact L2.Same.refl _ | apply same_trans'))
local macro_rules | `(tactic| walk_at "hp") => `(tactic| repeat' (first | assumption | exact upd_same | apply old_upd | apply same_at))
local macro_rules | `(tactic| walk_at "rd") => `(tactic| repeat' (first | rfl | apply Exists.intro | apply And.intro | refine iteT ?_ | refine iteF ?_ | exact upd_same | exact SqL.of (by assumption) | exact SqL.of upd_same | exact SqT.of upd_same | exact SqT.of (by assumption) | ((with_reducible show (_ : Int) < _); omega) | ((with_reducible show (_ : Int) ≤ _); omega) | (show (_ : Prop); assumption) | exact Or.inl ⟨_, by assumption, rfl⟩ | exact Or.inl ⟨rfl, _, SqL.of (by assumption)⟩ | exact Or.inl ⟨rfl, _, SqL.of upd_same⟩ | apply old_upd | apply Hx.SqL.new | apply tyl_new | apply Pot.new | exact same_at (by assumption) (by assumption) | exact Or.inl (SqL.of (by assumption)) | exact Or.inl (by assumption) | exact Or.inl (SqL.of upd_same) | exact size_le (Nat.le_of_ble_eq_true rfl) | exact Nat.le_of_ble_eq_true rfl | exact True.intro | exact Or.inl rfl | exact Or.inr rfl | (show (_ : Prop); omega) | (show (_ : Prop); dsimp only; omega) | exact mulw64 (by omega) (by omega) | exact mulw64 (by (try dsimp only); omega) (by (try dsimp only); omega)))
set_option hygiene false in
local macro_rules | `(tactic| walk_at "fl") => `(tactic| simp only [pu_Renamer_new_map, pi_Renamer_new_map, pu_Renamer_old_map, pi_Renamer_old_map, pu_Renamer_free, pi_Renamer_free, pu_Renamer_lendings, pi_Renamer_lendings, pu_Renamer_cells, pi_Renamer_cells] at hO)
local macro_rules | `(tactic| walk_at "mem") => `(tactic| ((repeat (first | exact List.Mem.head _ | apply List.Mem.tail | fail)); done))
local macro_rules | `(tactic| walk_at "setat") => `(tactic| ((repeat (first | (with_reducible exact At.head) | (with_reducible apply At.tail) | (with_reducible apply At.app) | fail)); done))
set_option hygiene false in
local macro_rules | `(tactic| walk_at "dv") => `(tactic| ((repeat' (first | exact Dv.nil | exact Dv.of (by walk_at "mem") | exact Dv.ints _ | exact Dv1.of (by walk_at "mem") | exact Dv1.int _ | exact Dv1.non | exact Dv1.bl _ | exact Dv1.str _ | (with_reducible apply Dv.cons) | refine Dv1.tup (by walk_at "mem") ?_ | refine Dv1.lst (by walk_at "mem") ?_ | (with_reducible apply Dv.app) | fail)); done))
local macro_rules | `(tactic| walk_at "ft") => `(tactic| (first | (with_reducible exact Ft.refl) | ((with_reducible apply Ft.toL); focus walk_at "dv") | ((with_reducible apply Ft.toS); focus assumption) | (with_reducible apply Ft.lst) | (with_reducible apply Ft.Le) | (with_reducible apply Ft.dK) | (with_reducible apply Ft.De) | (with_reducible apply Ft.ins) | (with_reducible apply Ft.toL) | (with_reducible apply Ft.toS) | (with_reducible apply Ft.toD) | fail))
local macro_rules | `(tactic| walk_at "sbL") => `(tactic| repeat' (first | (with_reducible exact Sb.refl _) | exact Sb.nil | (with_reducible apply Sb.cons) | (with_reducible apply Sb.app) | (with_reducible exact Pk.one) | (with_reducible exact Pk.here) | (with_reducible exact Pk.all) | (with_reducible apply Pk.skip1) | (with_reducible apply Pk.skipB) | (with_reducible apply Sb.skip) | (with_reducible apply Sb.skipB) | ((with_reducible show Ft _ _ _ _); walk_at "ft") | ((with_reducible show (_ : List _) = _); (first | rfl | (simp [List.map_set, List.map_append]; done) | fail)) | fail))
local macro_rules | `(tactic| walk_at "sb") => `(tactic| ((walk_at "sbL"); done))
local macro_rules | `(tactic| walk_at "ps") => `(tactic| ((repeat' (first | (with_reducible exact Ps.refl) | exact Ps.nil | (with_reducible apply Ps.cons) | exact List.Mem.head _ | apply List.Mem.tail | (with_reducible apply Ps.skip) | fail)); done))
set_option hygiene false in
local macro_rules | `(tactic| walk_at "at") => `(tactic| first | assumption | exact Own.raw hO (by walk_at "mem") | exact Own.ptup hO (by walk_at "mem") | exact Own.plst hO (by walk_at "mem") | fail)
set_option hygiene false in
local macro_rules | `(tactic| walk_at "st") => `(tactic| (rw [upd_mkO hO]; generalize e : updX _ _ _ = H1; (first | ((apply Own.cset hO e); (focus walk_at "setat"); (try clear hO e); intro hO) | ((apply Own.cnewT hO e); (focus assumption); (try clear hO e); intro hO) | ((apply Own.cnew hO e); (focus assumption); (try clear hO e); intro hO) | fail)))
set_option hygiene false in
local macro_rules | `(tactic| walk_at "mk") => `(tactic| (intro p1 p2 f1 f2 f3; rw [upd_mkO hO]; generalize e : upd (updX _ _ _) _ _ = H1; apply Own.cmake hO f1 f2 f3 e; (try clear hO e); intro hO))
set_option hygiene false in
local macro_rules | `(tactic| walk_at "own") => `(tactic| (first | ((apply Own.sub hO); (focus walk_at "sb"); (focus walk_at "ps")) | ((apply Own.sub hF); (focus walk_at "sb"); (focus walk_at "ps")) | fail))
set_option hygiene false in
local macro_rules | `(tactic| walk_at "fin") => `(tactic| (refine Own.sub hO ?_ (by walk_at "ps"); walk_at "sbL"))
set_option hygiene false in
local macro_rules | `(tactic| walk_at "g1") => `(tactic| (first
 | ((with_reducible show (_ : Option HO) = _); walk_at "at")
 | ((with_reducible show (_ : Int) < _); omega) | ((with_reducible show (_ : Int) ≤ _); omega)
 | ((with_reducible show (_ : Nat) < _); (first | assumption | exact Nat.le_of_ble_eq_true rfl | exact size_lt (Nat.le_of_ble_eq_true rfl) | omega | (simp; done) | (simp; omega) | fail))
 | ((with_reducible show (_ : Nat) ≤ _); (first | assumption | exact Nat.le_of_ble_eq_true rfl | exact size_le (Nat.le_of_ble_eq_true rfl) | omega | (simp; done) | (simp; omega) | fail))
 | ((with_reducible show Own _ _ _ _); (first | walk_at "own" | (walk_at "st"; walk_at "own") | fail))
 | ((with_reducible show SqL _ _ _ _); (first | assumption | exact SqL.of (by walk_at "at") | fail))
 | ((with_reducible show SqT _ _ _ _); (first | assumption | exact hO.psq (by walk_at "mem") | exact SqT.of (by walk_at "at") | fail))
  | ((with_reducible show Cls _ _); exact Txt.cl_Renamer T) | ((with_reducible show NoAttr _ _ _); exact Txt.n_Renamer_new_map T) | (with_reducible exact gt_Renamer_new_map) | ((with_reducible show NoAttr _ _ _); exact Txt.n_Renamer_old_map T) | (with_reducible exact gt_Renamer_old_map) | ((with_reducible show NoAttr _ _ _); exact Txt.n_Renamer_free T) | (with_reducible exact gt_Renamer_free) | ((with_reducible show NoAttr _ _ _); exact Txt.n_Renamer_lendings T) | (with_reducible exact gt_Renamer_lendings) | ((with_reducible show NoAttr _ _ _); exact Txt.n_Renamer_cells T) | (with_reducible exact gt_Renamer_cells)
 | ((with_reducible show SqL _ _ _ _ ∨ SqT _ _ _ _); (first | exact Or.inl (SqL.of (by walk_at "at")) | exact Or.inr (SqT.of (by walk_at "at")) | fail))
 | ((with_reducible show Dp _ _ _ _); (first | assumption | exact hO.dpL (by walk_at "mem") | exact .lst (SqL.of (by walk_at "at")) (hO.all (by walk_at "dv")) | exact hO.one (by walk_at "dv") | fail))
 | ((with_reducible show TruV _ _ _ _); (first | exact Or.inl ⟨_, SqL.of (by walk_at "at"), rfl⟩ | exact Or.inr (Or.inr ⟨_, by walk_at "at", rfl⟩) | exact Or.inr (Or.inl ⟨_, SqT.of (by walk_at "at"), rfl⟩) | fail))
 | ((with_reducible show RgOk _ _); exact RgOk.of_le (by omega) (by omega) (by omega) (by omega))
 | rfl | (with_reducible assumption) | apply And.intro | apply Exists.intro | refine iteT ?_ | refine iteF ?_
 | (walk_at "st"; (try walk_at "fl"))
 | ((with_reducible show ∀ _ : Addr, _ = none → _); (fail_if_success (with_reducible show ∀ _ : Addr, _ = none → ∃ _ : Nat → Nat → Hp → Prop, _)); intro p fp; walk_at "st")
 | (refine Or.inl ⟨SqL.of (by walk_at "at"), ?_⟩) | (refine Or.inr ⟨SqT.of (by walk_at "at"), ?_⟩) | exact Or.inl ⟨_, by walk_at "at", rfl⟩ | exact Or.inl ⟨rfl, _, SqL.of (by walk_at "at")⟩ | exact tyl_of (by walk_at "at") | exact Or.inl (SqL.of (by walk_at "at")) | exact Or.inr (SqT.of (by walk_at "at")) | exact Or.inl (by walk_at "at") | exact size_le (Nat.le_of_ble_eq_true rfl) | exact Nat.le_of_ble_eq_true rfl | exact True.intro | exact Or.inl rfl | exact Or.inr rfl | (show (_ : Prop); assumption) | (show (_ : Prop); omega) | (show (_ : Prop); dsimp only; omega) | exact mulw64 (by omega) (by omega) | exact mulw64 (by (try dsimp only); omega) (by (try dsimp only); omega) | fail))
local macro_rules | `(tactic| walk_at "go") => `(tactic| repeat walk_at "g1")

section
variable {P : Program} {w : World} {K : PySem.W.Frag} {mg : Str → Option Value} {base : Heap}
def sp_is_integer : Sp := fun vs H Q _ => ∃ i : Int, vs = [.int i] ∧ Q (.bl true) H
theorem ok_is_integer (T : Txt K mg) : FnOk P w K mg base CX0 1 T.f_is_integer T.fd_is_integer ["value"] (sp_is_integer) := by
  refine T.F_is_integer.ok sc_is_integer (fun vs H Q E h => ?_) (fun cdv A outer s H vs Q E hr h => ?_)
  · obtain ⟨i, rfl, k⟩ := h; rfl
  · obtain ⟨i, rfl, k⟩ := h
    refine ⟨_, (pss_one (ps_ret (pe_and (pe_callB call_isi (by rfl) T.m_isinstance (by decide +kernel) (pa_cons (pv 0) (pa_cons (pe_bltn (v := .ty "int") (u := .type "int") (by rfl) T.m_int (by decide +kernel) rfl) pa_nil))) (pe_one (pe_not (pe_callB call_isi (by rfl) T.m_isinstance (by decide +kernel) (pa_cons (pv 0) (pa_cons (pe_bltn (v := .ty "bool") (u := .type "bool") (by rfl) T.m_bool (by decide +kernel) rfl) pa_nil)))))))), ?_⟩
    clear hr
    refine ⟨_, rfl, _, _, _, _, true, rfl, .ty _, .base (.int _), kit_ty (by decide +kernel), true, rfl, iteT ?_⟩
    refine ⟨_, rfl, _, _, _, _, false, rfl, .ty _, .base (.int _), kit_ty (by decide +kernel), false, rfl, k⟩
def sp_is_between : Sp := fun vs H Q _ => ∃ i a b : Int, vs = [.int i, .int a, .int b] ∧ Q (.bl (decide (a ≤ i ∧ i ≤ b))) H
theorem ok_is_between (T : Txt K mg) : FnOk P w K mg base CX0 2 T.f_is_between T.fd_is_between ["value", "least", "most"] (sp_is_between) := by
  have G_is_integer := ok_is_integer (P := P) (w := w) (base := base) T
  refine T.F_is_between.ok sc_is_between (fun vs H Q E h => ?_) (fun cdv A outer s H vs Q E hr h => ?_)
  · obtain ⟨i, a, b, rfl, k⟩ := h; rfl
  · obtain ⟨i, a, b, rfl, k⟩ := h
    refine ⟨_, (pss_one (ps_ret (pe_and (pe_call G_is_integer (hr.mono (by decide)) rfl T.g_is_integer T.F_is_integer.kp T.b_is_integer .nil pass0 (pa_cons (pv 0) pa_nil)) (pe_one (pe_chain op_le op_le (pv 1) (pv 0) (pv 2)))))), ?_⟩
    clear G_is_integer
    clear hr
    walk_at "rd"
    refine iteD (fun h1 => ?_) (fun h1 => ?_)
    · walk_at "rd"; exact qbl k (by simp [h1])
    · exact qbl k (by simp [h1])
def sp_need_many : Sp := fun vs H Q _ => ∃ i a b : Int, vs = [.int i, .int a, .int b] ∧ (a ≤ i ∧ i ≤ b) ∧ Q .non H
theorem ok_need_many (T : Txt K mg) : FnOk P w K mg base CX0 3 T.f_need_many T.fd_need_many ["value", "least", "most"] (sp_need_many) := by
  have G_is_between := ok_is_between (P := P) (w := w) (base := base) T
  refine T.F_need_many.ok sc_need_many (fun vs H Q E h => ?_) (fun cdv A outer s H vs Q E hr h => ?_)
  · obtain ⟨i, a, b, rfl, hi, k⟩ := h; rfl
  · obtain ⟨i, a, b, rfl, hi, k⟩ := h
    refine ⟨_, (pss_one (ps_if (pt_not (pt_val (pe_call G_is_between (hr.mono (by decide)) rfl T.g_is_between T.F_is_between.kp T.b_is_between .nil pass0 (pa_cons (pv 0) (pa_cons (pv 1) (pa_cons (pv 2) pa_nil))))))
          (pss_one ps_never)
          pss_nil)), ?_⟩
    clear G_is_between
    clear hr
    walk_at "rd"
    refine iteN (fun h => absurd hi h) (fun _ => ?_)
    walk_at "rd"
def sp_is_word : Sp := fun vs H Q _ => ∃ i : Int, vs = [.int i] ∧ (0 ≤ i ∧ i < 65536) ∧ Q (.bl true) H
theorem ok_is_word (T : Txt K mg) : FnOk P w K mg base CX0 3 T.f_is_word T.fd_is_word ["value"] (sp_is_word) := by
  have G_is_between := ok_is_between (P := P) (w := w) (base := base) T
  refine T.F_is_word.ok sc_is_word (fun vs H Q E h => ?_) (fun cdv A outer s H vs Q E hr h => ?_)
  · obtain ⟨i, rfl, hi, k⟩ := h; rfl
  · obtain ⟨i, rfl, hi, k⟩ := h
    refine ⟨_, (pss_one (ps_ret (pe_call G_is_between (hr.mono (by decide)) rfl T.g_is_between T.F_is_between.kp T.b_is_between .nil pass0 (pa_cons (pv 0) (pa_cons pe_int (pa_cons (pe_op op_sub (pe_gint rfl T.c_WORDS) pe_int) pa_nil)))))), ?_⟩
    clear G_is_between
    clear hr
    walk_at "rd"
    exact qbl k (decide_eq_true (by omega))
def sp_is_register : Sp := fun vs H Q _ => ∃ i : Int, vs = [.int i] ∧ (0 ≤ i ∧ i < 8) ∧ Q (.bl true) H
theorem ok_is_register (T : Txt K mg) : FnOk P w K mg base CX0 3 T.f_is_register T.fd_is_register ["value"] (sp_is_register) := by
  have G_is_between := ok_is_between (P := P) (w := w) (base := base) T
  refine T.F_is_register.ok sc_is_register (fun vs H Q E h => ?_) (fun cdv A outer s H vs Q E hr h => ?_)
  · obtain ⟨i, rfl, hi, k⟩ := h; rfl
  · obtain ⟨i, rfl, hi, k⟩ := h
    refine ⟨_, (pss_one (ps_ret (pe_call G_is_between (hr.mono (by decide)) rfl T.g_is_between T.F_is_between.kp T.b_is_between .nil pass0 (pa_cons (pv 0) (pa_cons pe_int (pa_cons (pe_op op_sub (pe_gint rfl T.c_REGISTERS) pe_int) pa_nil)))))), ?_⟩
    clear G_is_between
    clear hr
    walk_at "rd"
    exact qbl k (decide_eq_true (by omega))
def sp_need_word : Sp := fun vs H Q _ => ∃ i : Int, vs = [.int i] ∧ (0 ≤ i ∧ i < 65536) ∧ Q .non H
theorem ok_need_word (T : Txt K mg) : FnOk P w K mg base CX0 4 T.f_need_word T.fd_need_word ["value"] (sp_need_word) := by
  have G_is_word := ok_is_word (P := P) (w := w) (base := base) T
  refine T.F_need_word.ok sc_need_word (fun vs H Q E h => ?_) (fun cdv A outer s H vs Q E hr h => ?_)
  · obtain ⟨i, rfl, hi, k⟩ := h; rfl
  · obtain ⟨i, rfl, hi, k⟩ := h
    refine ⟨_, (pss_one (ps_if (pt_not (pt_val (pe_call G_is_word (hr.mono (by decide)) rfl T.g_is_word T.F_is_word.kp T.b_is_word .nil pass0 (pa_cons (pv 0) pa_nil))))
          (pss_one ps_never)
          pss_nil)), ?_⟩
    clear G_is_word
    clear hr
    walk_at "rd"
def sp_need_register : Sp := fun vs H Q _ => ∃ i : Int, vs = [.int i] ∧ (0 ≤ i ∧ i < 8) ∧ Q .non H
theorem ok_need_register (T : Txt K mg) : FnOk P w K mg base CX0 4 T.f_need_register T.fd_need_register ["value"] (sp_need_register) := by
  have G_is_register := ok_is_register (P := P) (w := w) (base := base) T
  refine T.F_need_register.ok sc_need_register (fun vs H Q E h => ?_) (fun cdv A outer s H vs Q E hr h => ?_)
  · obtain ⟨i, rfl, hi, k⟩ := h; rfl
  · obtain ⟨i, rfl, hi, k⟩ := h
    refine ⟨_, (pss_one (ps_if (pt_not (pt_val (pe_call G_is_register (hr.mono (by decide)) rfl T.g_is_register T.F_is_register.kp T.b_is_register .nil pass0 (pa_cons (pv 0) pa_nil))))
          (pss_one ps_never)
          pss_nil)), ?_⟩
    clear G_is_register
    clear hr
    walk_at "rd"
def sp_init (K : PySem.W.Frag) (C : Addr) : Sp := fun vs H Q _ => ∃ (x dx : Addr) (m : Nat) (R : List (Addr × Ob)) (P : List Pf), vs = [.ref x, .int (m : Int)] ∧ (9 ≤ m ∧ m ≤ 48) ∧ Own K H ((x, .raw (.ins C dx [])) :: R) P ∧
  ∀ (n o f l c : Addr) (H' : Hp), Own K H' (rn C x dx n o f l c (s0 m) ++ R) P → Q .non H'
theorem ok_Renamer_init (T : Txt K mg) : FnOk P w K mg base CX0 4 T.f_Renamer_init T.fd_Renamer_init ["self", "many"] (sp_init K T.C_Renamer) := by
  have G_need_many := ok_need_many (P := P) (w := w) (base := base) T
  refine T.F_Renamer_init.ok sc_Renamer_init (fun vs H Q E h => ?_) (fun cdv A outer s H vs Q E hr h => ?_)
  · obtain ⟨x, dx, m, R, P, rfl, hm, hO, k⟩ := h; rfl
  · obtain ⟨x, dx, m, R, P, rfl, hm, hO, k⟩ := h
    refine ⟨_, (pss_cons (ps_expr (pe_call G_need_many (hr.mono (by decide)) rfl T.g_need_many T.F_need_many.kp T.b_need_many .nil pass0 (pa_cons (pv 1) (pa_cons (pe_gint rfl T.c__LEAST_CELLS) (pa_cons (pe_gint rfl T.c__MOST_CELLS) pa_nil)))))
        (pss_cons (ps_fld (pv 0) (pe_listRg rfl rfl T.m_list (prg_1 rfl T.m_range (pe_gint rfl T.c_REGISTERS))) rfl)
        (pss_cons (ps_fld (pv 0) (pe_listRg rfl rfl T.m_list (prg_1 rfl T.m_range (pe_gint rfl T.c_REGISTERS))) rfl)
        (pss_cons (ps_fld (pv 0) (pe_listRg rfl rfl T.m_list (prg_2 rfl T.m_range (pe_gint rfl T.c_REGISTERS) (pv 1))) rfl)
        (pss_cons (ps_fld (pv 0) (pe_lst pa_nil) rfl)
        (pss_one (ps_fld (pv 0) (pe_op op_cat (pe_op op_rep (pe_lst (pa_cons pe_int pa_nil)) (pe_gint rfl T.c_REGISTERS)) (pe_op op_rep (pe_lst (pa_cons pe_non pa_nil)) (pe_op op_sub (pv 1) (pe_gint rfl T.c_REGISTERS)))) rfl))))))), ?_⟩
    clear G_need_many
    clear hr
    have hmi : 9 ≤ (m : Int) ∧ (m : Int) ≤ 48 := by omega
    have szr : ([V.non] : List V).length * ((m : Int) - 8).toNat ≤ sizeLine := size_le (by simp; omega)
    have szc : (List.replicate (8 : Int).toNat [V.int 0]).flatten.length + (List.replicate ((m : Int) - 8).toNat [V.non]).flatten.length ≤ sizeLine := size_le (by simp; omega)
    simp only [rn, List.cons_append, List.nil_append] at k
    walk_at "go"
    apply k
    walk_at "fin"
    · exact rgV_8 m (by omega)
    · have e : ((m : Int) - 8).toNat = m - 8 := by omega
      rw [e, List.flatten_replicate_singleton, List.flatten_replicate_singleton]
      show _ = (List.replicate 8 (some (0 : Int)) ++ List.replicate (m - 8) none).map oV
      rw [List.map_append, List.map_replicate, List.map_replicate]
      rfl
end
end K67

set_option Elab.async false
set_option linter.all false
set_option maxRecDepth 100000
set_option maxHeartbeats 8000000

namespace K67
open PySem PySem.Spec PyProof.Rows L2 Hx 
local macro_rules | `(tactic| walk_at "sm") => `(tactic| repeat' (first | assumption | apply Hx.Same.upd | exact L2.Same.refl _ | apply same_trans'))
local macro_rules | `(tactic| walk_at "hp") => `(tactic| repeat' (first | assumption | exact upd_same | apply old_upd | apply same_at))
local macro_rules | `(tactic| walk_at "rd") => `(tactic| repeat' (first | rfl | apply Exists.intro | apply And.intro | refine iteT ?_ | refine iteF ?_ | exact upd_same | exact SqL.of (by assumption) | exact SqL.of upd_same | exact SqT.of upd_same | exact SqT.of (by assumption) | ((with_reducible show (_ : Int) < _); omega) | ((with_reducible show (_ : Int) ≤ _); omega) | (show (_ : Prop); assumption) | exact Or.inl ⟨_, by assumption, rfl⟩ | exact Or.inl ⟨rfl, _, SqL.of (by assumption)⟩ | exact Or.inl ⟨rfl, _, SqL.of upd_same⟩ | apply old_upd | apply Hx.SqL.new | apply tyl_new | apply Pot.new | exact same_at (by assumption) (by assumption) | exact Or.inl (SqL.of (by assumption)) | exact Or.inl (by assumption) | exact Or.inl (SqL.of upd_same) | exact size_le (Nat.le_of_ble_eq_true rfl) | exact Nat.le_of_ble_eq_true rfl | exact True.intro | exact Or.inl rfl | exact Or.inr rfl | (show (_ : Prop); omega) | (show (_ : Prop); dsimp only; omega) | exact mulw64 (by omega) (by omega) | exact mulw64 (by (try dsimp only); omega) (by (try dsimp only); omega)))
set_option hygiene false in
local macro_rules | `(tactic| walk_at "fl") => `(tactic| simp only [pu_Renamer_new_map, pi_Renamer_new_map, pu_Renamer_old_map, pi_Renamer_old_map, pu_Renamer_free, pi_Renamer_free, pu_Renamer_lendings, pi_Renamer_lendings, pu_Renamer_cells, pi_Renamer_cells] at hO)
local macro_rules | `(tactic| walk_at "mem") => `(tactic| ((repeat (first | exact List.Mem.head _ | apply List.Mem.tail | fail)); done))
local macro_rules | `(tactic| walk_at "setat") => `(tactic| ((repeat (first | (with_reducible exact At.head) | (with_reducible apply At.tail) | (with_reducible apply At.app) | fail)); done))
set_option hygiene false in
local macro_rules | `(tactic| walk_at "dv") => `(tactic| ((repeat' (first | exact Dv.nil | exact Dv.of (by walk_at "mem") | exact Dv.ints _ | exact Dv1.of (by walk_at "mem") | exact Dv1.int _ | exact Dv1.non | exact Dv1.bl _ | exact Dv1.str _ | (with_reducible apply Dv.cons) | refine Dv1.tup (by walk_at "mem") ?_ | refine Dv1.lst (by walk_at "mem") ?_ | (with_reducible apply Dv.app) | fail)); done))
local macro_rules | `(tactic| walk_at "ft") => `(tactic| (first | (with_reducible exact Ft.refl) | ((with_reducible apply Ft.toL); focus walk_at "dv") | ((with_reducible apply Ft.toS); focus assumption) | (with_reducible apply Ft.lst) | (with_reducible apply Ft.Le) | (with_reducible apply Ft.dK) | (with_reducible apply Ft.De) | (with_reducible apply Ft.ins) | (with_reducible apply Ft.toL) | (with_reducible apply Ft.toS) | (with_reducible apply Ft.toD) | fail))
local macro_rules | `(tactic| walk_at "sbL") => `(tactic| repeat' (first | (with_reducible exact Sb.refl _) | exact Sb.nil | (with_reducible apply Sb.cons) | (with_reducible apply Sb.app) | (with_reducible exact Pk.one) | (with_reducible exact Pk.here) | (with_reducible exact Pk.all) | (with_reducible apply Pk.skip1) | (with_reducible apply Pk.skipB) | (with_reducible apply Sb.skip) | (with_reducible apply Sb.skipB) | ((with_reducible show Ft _ _ _ _); walk_at "ft") | ((with_reducible show (_ : List _) = _); (first | rfl | (simp [List.map_set, List.map_append]; done) | fail)) | fail))
local macro_rules | `(tactic| walk_at "sb") => `(tactic| ((walk_at "sbL"); done))
local macro_rules | `(tactic| walk_at "ps") => `(tactic| ((repeat' (first | (with_reducible exact Ps.refl) | exact Ps.nil | (with_reducible apply Ps.cons) | exact List.Mem.head _ | apply List.Mem.tail | (with_reducible apply Ps.skip) | fail)); done))
set_option hygiene false in
local macro_rules | `(tactic| walk_at "at") => `(tactic| first | assumption | exact Own.raw hO (by walk_at "mem") | exact Own.ptup hO (by walk_at "mem") | exact Own.plst hO (by walk_at "mem") | fail)
set_option hygiene false in
local macro_rules | `(tactic| walk_at "st") => `(tactic| (rw [upd_mkO hO]; generalize e : updX _ _ _ = H1; (first | ((apply Own.cset hO e); (focus walk_at "setat"); (try clear hO e); intro hO) | ((apply Own.cnewT hO e); (focus assumption); (try clear hO e); intro hO) | ((apply Own.cnew hO e); (focus assumption); (try clear hO e); intro hO) | fail)))
set_option hygiene false in
local macro_rules | `(tactic| walk_at "mk") => `(tactic| (intro p1 p2 f1 f2 f3; rw [upd_mkO hO]; generalize e : upd (updX _ _ _) _ _ = H1; apply Own.cmake hO f1 f2 f3 e; (try clear hO e); intro hO))
set_option hygiene false in
local macro_rules | `(tactic| walk_at "own") => `(tactic| (first | ((apply Own.sub hO); (focus walk_at "sb"); (focus walk_at "ps")) | ((apply Own.sub hF); (focus walk_at "sb"); (focus walk_at "ps")) | fail))
set_option hygiene false in
local macro_rules | `(tactic| walk_at "fin") => `(tactic| (refine Own.sub hO ?_ (by walk_at "ps"); walk_at "sbL"))
set_option hygiene false in
local macro_rules | `(tactic| walk_at "g1") => `(tactic| (first
 | ((with_reducible show (_ : Option HO) = _); walk_at "at")
 | ((with_reducible show (_ : Int) < _); omega) | ((with_reducible show (_ : Int) ≤ _); omega)
 | ((with_reducible show (_ : Nat) < _); (first | assumption | exact Nat.le_of_ble_eq_true rfl | exact size_lt (Nat.le_of_ble_eq_true rfl) | omega | (simp; done) | (simp; omega) | fail))
 | ((with_reducible show (_ : Nat) ≤ _); (first | assumption | exact Nat.le_of_ble_eq_true rfl | exact size_le (Nat.le_of_ble_eq_true rfl) | omega | (simp; done) | (simp; omega) | fail))
 | ((with_reducible show Own _ _ _ _); (first | walk_at "own" | (walk_at "st"; walk_at "own") | fail))
 | ((with_reducible show SqL _ _ _ _); (first | assumption | exact SqL.of (by walk_at "at") | fail))
 | ((with_reducible show SqT _ _ _ _); (first | assumption | exact hO.psq (by walk_at "mem") | exact SqT.of (by walk_at "at") | fail))
  | ((with_reducible show Cls _ _); exact Txt.cl_Renamer T) | ((with_reducible show NoAttr _ _ _); exact Txt.n_Renamer_new_map T) | (with_reducible exact gt_Renamer_new_map) | ((with_reducible show NoAttr _ _ _); exact Txt.n_Renamer_old_map T) | (with_reducible exact gt_Renamer_old_map) | ((with_reducible show NoAttr _ _ _); exact Txt.n_Renamer_free T) | (with_reducible exact gt_Renamer_free) | ((with_reducible show NoAttr _ _ _); exact Txt.n_Renamer_lendings T) | (with_reducible exact gt_Renamer_lendings) | ((with_reducible show NoAttr _ _ _); exact Txt.n_Renamer_cells T) | (with_reducible exact gt_Renamer_cells)
 | ((with_reducible show SqL _ _ _ _ ∨ SqT _ _ _ _); (first | exact Or.inl (SqL.of (by walk_at "at")) | exact Or.inr (SqT.of (by walk_at "at")) | fail))
 | ((with_reducible show Dp _ _ _ _); (first | assumption | exact hO.dpL (by walk_at "mem") | exact .lst (SqL.of (by walk_at "at")) (hO.all (by walk_at "dv")) | exact hO.one (by walk_at "dv") | fail))
 | ((with_reducible show TruV _ _ _ _); (first | exact Or.inl ⟨_, SqL.of (by walk_at "at"), rfl⟩ | exact Or.inr (Or.inr ⟨_, by walk_at "at", rfl⟩) | exact Or.inr (Or.inl ⟨_, SqT.of (by walk_at "at"), rfl⟩) | fail))
 | ((with_reducible show RgOk _ _); exact RgOk.of_le (by omega) (by omega) (by omega) (by omega))
 | rfl | (with_reducible assumption) | apply And.intro | apply Exists.intro | refine iteT ?_ | refine iteF ?_
 | (walk_at "st"; (try walk_at "fl"))
 | ((with_reducible show ∀ _ : Addr, _ = none → _); (fail_if_success (with_reducible show ∀ _ : Addr, _ = none → ∃ _ : Nat → Nat → Hp → Prop, _)); intro p fp; walk_at "st")
 | (refine Or.inl ⟨SqL.of (by walk_at "at"), ?_⟩) | (refine Or.inr ⟨SqT.of (by walk_at "at"), ?_⟩) | exact Or.inl ⟨_, by walk_at "at", rfl⟩ | exact Or.inl ⟨rfl, _, SqL.of (by walk_at "at")⟩ | exact tyl_of (by walk_at "at") | exact Or.inl (SqL.of (by walk_at "at")) | exact Or.inr (SqT.of (by walk_at "at")) | exact Or.inl (by walk_at "at") | exact size_le (Nat.le_of_ble_eq_true rfl) | exact Nat.le_of_ble_eq_true rfl | exact True.intro | exact Or.inl rfl | exact Or.inr rfl | (show (_ : Prop); assumption) | (show (_ : Prop); omega) | (show (_ : Prop); dsimp only; omega) | exact mulw64 (by omega) (by omega) | exact mulw64 (by (try dsimp only); omega) (by (try dsimp only); omega) | fail))
local macro_rules | `(tactic| walk_at "go") => `(tactic| repeat walk_at "g1")

section
variable {P : Program} {w : World} {K : PySem.W.Frag} {mg : Str → Option Value} {base : Heap}
def sp_need_cell (K : PySem.W.Frag) (C : Addr) : Sp := fun vs H Q _ => ∃ (x dx n o f l c : Addr) (S : RS) (m : Nat) (i : Int) (R : List (Addr × Ob)) (P : List Pf), vs = [.ref x, .int i] ∧ Own K H (rn C x dx n o f l c S ++ R) P ∧ Ok S m ∧ (0 ≤ i ∧ i < m) ∧ Q .non H
theorem ok_Renamerneed_cell (T : Txt K mg) : FnOk P w K mg base CX0 3 T.f_Renamerneed_cell T.fd_Renamerneed_cell ["self", "value"] (sp_need_cell K T.C_Renamer) := by
  have G_is_between := ok_is_between (P := P) (w := w) (base := base) T
  refine T.F_Renamerneed_cell.ok sc_Renamerneed_cell (fun vs H Q E h => ?_) (fun cdv A outer s H vs Q E hr h => ?_)
  · obtain ⟨x, dx, n, o, f, l, c, S, m, i, R, P, rfl, hO, hk, hi, k⟩ := h; rfl
  · obtain ⟨x, dx, n, o, f, l, c, S, m, i, R, P, rfl, hO, hk, hi, k⟩ := h
    refine ⟨_, (pss_one (ps_if (pt_not (pt_val (pe_call G_is_between (hr.mono (by decide)) rfl T.g_is_between T.F_is_between.kp T.b_is_between .nil pass0 (pa_cons (pv 1) (pa_cons pe_int (pa_cons (pe_op op_sub (pe_callB call_len_list (by rfl) T.m_len (by decide +kernel) (pa_cons (pe_fld (pv 0) rfl) pa_nil)) pe_int) pa_nil))))))
          (pss_one ps_never)
          pss_nil)), ?_⟩
    clear G_is_between
    clear hr
    have len := hk.cl
    have hF := hO
    simp only [rn, List.cons_append, List.nil_append] at hO k
    walk_at "go"
    refine iteN (fun h => absurd (by rw [List.length_map, len]; omega) h) (fun _ => ?_)
    walk_at "go"
def sp_need_lending (K : PySem.W.Frag) (C : Addr) : Sp := fun vs H Q _ => ∃ (x dx n o f l c : Addr) (S : RS) (m : Nat) (w i j : Int) (R : List (Addr × Ob)) (P : List Pf), vs = [.ref x, .int w, .int i, .int j] ∧ Own K H (rn C x dx n o f l c S ++ R) P ∧ Ok S m ∧ (0 ≤ w ∧ w < 8) ∧ (0 ≤ i ∧ i < m) ∧ (0 ≤ j ∧ j < m) ∧ Q .non H
theorem ok_Renamerneed_lending (T : Txt K mg) : FnOk P w K mg base CX0 5 T.f_Renamerneed_lending T.fd_Renamerneed_lending ["self", "which", "new", "old"] (sp_need_lending K T.C_Renamer) := by
  have G_need_register := ok_need_register (P := P) (w := w) (base := base) T
  have G_Renamerneed_cell := ok_Renamerneed_cell (P := P) (w := w) (base := base) T
  refine T.F_Renamerneed_lending.ok sc_Renamerneed_lending (fun vs H Q E h => ?_) (fun cdv A outer s H vs Q E hr h => ?_)
  · obtain ⟨x, dx, n, o, f, l, c, S, m, w, i, j, R, P, rfl, hO, hk, hw, hi, hj, k⟩ := h; rfl
  · obtain ⟨x, dx, n, o, f, l, c, S, m, w, i, j, R, P, rfl, hO, hk, hw, hi, hj, k⟩ := h
    refine ⟨_, (pss_cons (ps_expr (pe_call G_need_register (hr.mono (by decide)) rfl T.g_need_register T.F_need_register.kp T.b_need_register .nil pass0 (pa_cons (pv 1) pa_nil)))
        (pss_cons (ps_expr (pe_meth (pv 0) T.cl_Renamer T.me_Renamerneed_cell G_Renamerneed_cell (hr.mono (by decide)) T.b_Renamerneed_cell .nil pass0 (pa_cons (pv 2) pa_nil)))
        (pss_one (ps_expr (pe_meth (pv 0) T.cl_Renamer T.me_Renamerneed_cell G_Renamerneed_cell (hr.mono (by decide)) T.b_Renamerneed_cell .nil pass0 (pa_cons (pv 3) pa_nil)))))), ?_⟩
    clear G_need_register G_Renamerneed_cell
    clear hr
    have hF := hO
    simp only [rn, List.cons_append, List.nil_append] at hO k
    walk_at "go"
def sp_place (K : PySem.W.Frag) (C : Addr) : Sp := fun vs H Q _ => ∃ (x dx n o f l c : Addr) (S : RS) (m w : Nat) (R : List (Addr × Ob)) (P : List Pf), vs = [.ref x, .int (w : Int)] ∧ Own K H (rn C x dx n o f l c S ++ R) P ∧ Ok S m ∧ w < 8 ∧ Q (.int (S.nm.getD w 0)) H
theorem ok_Renamer_place_of (T : Txt K mg) : FnOk P w K mg base CX0 5 T.f_Renamer_place_of T.fd_Renamer_place_of ["self", "which"] (sp_place K T.C_Renamer) := by
  have G_need_register := ok_need_register (P := P) (w := w) (base := base) T
  refine T.F_Renamer_place_of.ok sc_Renamer_place_of (fun vs H Q E h => ?_) (fun cdv A outer s H vs Q E hr h => ?_)
  · obtain ⟨x, dx, n, o, f, l, c, S, m, w, R, P, rfl, hO, hk, hw, k⟩ := h; rfl
  · obtain ⟨x, dx, n, o, f, l, c, S, m, w, R, P, rfl, hO, hk, hw, k⟩ := h
    refine ⟨_, (pss_cons (ps_expr (pe_call G_need_register (hr.mono (by decide)) rfl T.g_need_register T.F_need_register.kp T.b_need_register .nil pass0 (pa_cons (pv 1) pa_nil)))
        (pss_one (ps_ret (pe_ix ix_list (pe_fld (pv 0) rfl) (pv 1) (fun _ _ => rfl))))), ?_⟩
    clear G_need_register
    clear hr
    have hwi : 0 ≤ (w : Int) ∧ (w : Int) < 8 := by omega
    have aw := atW (ws := S.nm) (i := w) (by rw [hk.nm]; exact hw)
    have hF := hO
    simp only [rn, List.cons_append, List.nil_append] at hO k
    walk_at "go"
end
end K67

set_option Elab.async false
set_option linter.all false
set_option maxRecDepth 100000
set_option maxHeartbeats 8000000

namespace K67
open PySem PySem.Spec PyProof.Rows L2 Hx 
local macro_rules | `(tactic| walk_at "sm") => `(tactic| repeat' (first | assumption | apply Hx.Same.upd | exact L2.Same.refl _ | apply same_trans'))
local macro_rules | `(tactic| walk_at "hp") => `(tactic| repeat' (first | assumption | exact upd_same | apply old_upd | apply same_at))
local macro_rules | `(tactic| walk_at "rd") => `(tactic| repeat' (first | rfl | apply Exists.intro | apply And.intro | refine iteT ?_ | refine iteF ?_ | exact upd_same | exact SqL.of (by assumption) | exact SqL.of upd_same | exact SqT.of upd_same | exact SqT.of (by assumption) | ((with_reducible show (_ : Int) < _); omega) | ((with_reducible show (_ : Int) ≤ _); omega) | (show (_ : Prop); assumption) | exact Or.inl ⟨_, by assumption, rfl⟩ | exact Or.inl ⟨rfl, _, SqL.of (by assumption)⟩ | exact Or.inl ⟨rfl, _, SqL.of upd_same⟩ | apply old_upd | apply Hx.SqL.new | apply tyl_new | apply Pot.new | exact same_at (by assumption) (by assumption) | exact Or.inl (SqL.of (by assumption)) | exact Or.inl (by assumption) | exact Or.inl (SqL.of upd_same) | exact size_le (Nat.le_of_ble_eq_true rfl) | exact Nat.le_of_ble_eq_true rfl | exact True.intro | exact Or.inl rfl | exact Or.inr rfl | (show (_ : Prop); omega) | (show (_ : Prop); dsimp only; omega) | exact mulw64 (by omega) (by omega) | exact mulw64 (by (try dsimp only); omega) (by (try dsimp only); omega)))
set_option hygiene false in
local macro_rules | `(tactic| walk_at "fl") => `(tactic| simp only [pu_Renamer_new_map, pi_Renamer_new_map, pu_Renamer_old_map, pi_Renamer_old_map, pu_Renamer_free, pi_Renamer_free, pu_Renamer_lendings, pi_Renamer_lendings, pu_Renamer_cells, pi_Renamer_cells] at hO)
local macro_rules | `(tactic| walk_at "mem") => `(tactic| ((repeat (first | exact List.Mem.head _ | apply List.Mem.tail | fail)); done))
local macro_rules | `(tactic| walk_at "setat") => `(tactic| ((repeat (first | (with_reducible exact At.head) | (with_reducible apply At.tail) | (with_reducible apply At.app) | fail)); done))
set_option hygiene false in
local macro_rules | `(tactic| walk_at "dv") => `(tactic| ((repeat' (first | exact Dv.nil | exact Dv.of (by walk_at "mem") | exact Dv.ints _ | exact Dv1.of (by walk_at "mem") | exact Dv1.int _ | exact Dv1.non | exact Dv1.bl _ | exact Dv1.str _ | (with_reducible apply Dv.cons) | refine Dv1.tup (by walk_at "mem") ?_ | refine Dv1.lst (by walk_at "mem") ?_ | (with_reducible apply Dv.app) | fail)); done))
local macro_rules | `(tactic| walk_at "ft") => `(tactic| (first | (with_reducible exact Ft.refl) | ((with_reducible apply Ft.toL); focus walk_at "dv") | ((with_reducible apply Ft.toS); focus assumption) | (with_reducible apply Ft.lst) | (with_reducible apply Ft.Le) | (with_reducible apply Ft.dK) | (with_reducible apply Ft.De) | (with_reducible apply Ft.ins) | (with_reducible apply Ft.toL) | (with_reducible apply Ft.toS) | (with_reducible apply Ft.toD) | fail))
local macro_rules | `(tactic| walk_at "sbL") => `(tactic| repeat' (first | (with_reducible exact Sb.refl _) | exact Sb.nil | (with_reducible apply Sb.cons) | (with_reducible apply Sb.app) | (with_reducible exact Pk.one) | (with_reducible exact Pk.here) | (with_reducible exact Pk.all) | (with_reducible apply Pk.skip1) | (with_reducible apply Pk.skipB) | (with_reducible apply Sb.skip) | (with_reducible apply Sb.skipB) | ((with_reducible show Ft _ _ _ _); walk_at "ft") | ((with_reducible show (_ : List _) = _); (first | rfl | (simp [List.map_set, List.map_append]; done) | fail)) | fail))
local macro_rules | `(tactic| walk_at "sb") => `(tactic| ((walk_at "sbL"); done))
local macro_rules | `(tactic| walk_at "ps") => `(tactic| ((repeat' (first | (with_reducible exact Ps.refl) | exact Ps.nil | (with_reducible apply Ps.cons) | exact List.Mem.head _ | apply List.Mem.tail | (with_reducible apply Ps.skip) | fail)); done))
set_option hygiene false in
local macro_rules | `(tactic| walk_at "at") => `(tactic| first | assumption | exact Own.raw hO (by walk_at "mem") | exact Own.ptup hO (by walk_at "mem") | exact Own.plst hO (by walk_at "mem") | fail)
set_option hygiene false in
local macro_rules | `(tactic| walk_at "st") => `(tactic| (rw [upd_mkO hO]; generalize e : updX _ _ _ = H1; (first | ((apply Own.cset hO e); (focus walk_at "setat"); (try clear hO e); intro hO) | ((apply Own.cnewT hO e); (focus assumption); (try clear hO e); intro hO) | ((apply Own.cnew hO e); (focus assumption); (try clear hO e); intro hO) | fail)))
set_option hygiene false in
local macro_rules | `(tactic| walk_at "mk") => `(tactic| (intro p1 p2 f1 f2 f3; rw [upd_mkO hO]; generalize e : upd (updX _ _ _) _ _ = H1; apply Own.cmake hO f1 f2 f3 e; (try clear hO e); intro hO))
set_option hygiene false in
local macro_rules | `(tactic| walk_at "own") => `(tactic| (first | ((apply Own.sub hO); (focus walk_at "sb"); (focus walk_at "ps")) | ((apply Own.sub hF); (focus walk_at "sb"); (focus walk_at "ps")) | fail))
set_option hygiene false in
local macro_rules | `(tactic| walk_at "fin") => `(tactic| (refine Own.sub hO ?_ (by walk_at "ps"); walk_at "sbL"))
set_option hygiene false in
local macro_rules | `(tactic| walk_at "g1") => `(tactic| (first
 | ((with_reducible show (_ : Option HO) = _); walk_at "at")
 | ((with_reducible show (_ : Int) < _); omega) | ((with_reducible show (_ : Int) ≤ _); omega)
 | ((with_reducible show (_ : Nat) < _); (first | assumption | exact Nat.le_of_ble_eq_true rfl | exact size_lt (Nat.le_of_ble_eq_true rfl) | omega | (simp; done) | (simp; omega) | fail))
 | ((with_reducible show (_ : Nat) ≤ _); (first | assumption | exact Nat.le_of_ble_eq_true rfl | exact size_le (Nat.le_of_ble_eq_true rfl) | omega | (simp; done) | (simp; omega) | fail))
 | ((with_reducible show Own _ _ _ _); (first | walk_at "own" | (walk_at "st"; walk_at "own") | fail))
 | ((with_reducible show SqL _ _ _ _); (first | assumption | exact SqL.of (by walk_at "at") | fail))
 | ((with_reducible show SqT _ _ _ _); (first | assumption | exact hO.psq (by walk_at "mem") | exact SqT.of (by walk_at "at") | fail))
  | ((with_reducible show Cls _ _); exact Txt.cl_Renamer T) | ((with_reducible show NoAttr _ _ _); exact Txt.n_Renamer_new_map T) | (with_reducible exact gt_Renamer_new_map) | ((with_reducible show NoAttr _ _ _); exact Txt.n_Renamer_old_map T) | (with_reducible exact gt_Renamer_old_map) | ((with_reducible show NoAttr _ _ _); exact Txt.n_Renamer_free T) | (with_reducible exact gt_Renamer_free) | ((with_reducible show NoAttr _ _ _); exact Txt.n_Renamer_lendings T) | (with_reducible exact gt_Renamer_lendings) | ((with_reducible show NoAttr _ _ _); exact Txt.n_Renamer_cells T) | (with_reducible exact gt_Renamer_cells)
 | ((with_reducible show SqL _ _ _ _ ∨ SqT _ _ _ _); (first | exact Or.inl (SqL.of (by walk_at "at")) | exact Or.inr (SqT.of (by walk_at "at")) | fail))
 | ((with_reducible show Dp _ _ _ _); (first | assumption | exact hO.dpL (by walk_at "mem") | exact .lst (SqL.of (by walk_at "at")) (hO.all (by walk_at "dv")) | exact hO.one (by walk_at "dv") | fail))
 | ((with_reducible show TruV _ _ _ _); (first | exact Or.inl ⟨_, SqL.of (by walk_at "at"), rfl⟩ | exact Or.inr (Or.inr ⟨_, by walk_at "at", rfl⟩) | exact Or.inr (Or.inl ⟨_, SqT.of (by walk_at "at"), rfl⟩) | fail))
 | ((with_reducible show RgOk _ _); exact RgOk.of_le (by omega) (by omega) (by omega) (by omega))
 | rfl | (with_reducible assumption) | apply And.intro | apply Exists.intro | refine iteT ?_ | refine iteF ?_
 | (walk_at "st"; (try walk_at "fl"))
 | ((with_reducible show ∀ _ : Addr, _ = none → _); (fail_if_success (with_reducible show ∀ _ : Addr, _ = none → ∃ _ : Nat → Nat → Hp → Prop, _)); intro p fp; walk_at "st")
 | (refine Or.inl ⟨SqL.of (by walk_at "at"), ?_⟩) | (refine Or.inr ⟨SqT.of (by walk_at "at"), ?_⟩) | exact Or.inl ⟨_, by walk_at "at", rfl⟩ | exact Or.inl ⟨rfl, _, SqL.of (by walk_at "at")⟩ | exact tyl_of (by walk_at "at") | exact Or.inl (SqL.of (by walk_at "at")) | exact Or.inr (SqT.of (by walk_at "at")) | exact Or.inl (by walk_at "at") | exact size_le (Nat.le_of_ble_eq_true rfl) | exact Nat.le_of_ble_eq_true rfl | exact True.intro | exact Or.inl rfl | exact Or.inr rfl | (show (_ : Prop); assumption) | (show (_ : Prop); omega) | (show (_ : Prop); dsimp only; omega) | exact mulw64 (by omega) (by omega) | exact mulw64 (by (try dsimp only); omega) (by (try dsimp only); omega) | fail))
local macro_rules | `(tactic| walk_at "go") => `(tactic| repeat walk_at "g1")

section
variable {P : Program} {w : World} {K : PySem.W.Frag} {mg : Str → Option Value} {base : Heap}
def sp_lent (K : PySem.W.Frag) (C : Addr) : Sp := fun vs H Q _ => ∃ (x dx n o f l c : Addr) (S : RS) (m w : Nat) (new : Int) (fr : List Int) (R : List (Addr × Ob)) (P : List Pf), vs = [.ref x, .int (w : Int)] ∧ Own K H (rn C x dx n o f l c S ++ R) P ∧ Ok S m ∧ w < 8 ∧ S.fr = new :: fr ∧ ∀ (t : Addr) (H' : Hp), Own K H' (rn C x dx n o f l c ⟨S.nm.set w new, S.om, fr, S.ld ++ [((w : Int), new, S.nm.getD w 0)], S.cl⟩ ++ R) (.tup t [.int new, .int (S.nm.getD w 0)] :: P) → Q (.ref t) H'
theorem ok_Renamer_lent (T : Txt K mg) : FnOk P w K mg base CX0 5 T.f_Renamer_lent T.fd_Renamer_lent ["self", "which"] (sp_lent K T.C_Renamer) := by
  have G_need_register := ok_need_register (P := P) (w := w) (base := base) T
  refine T.F_Renamer_lent.ok sc_Renamer_lent (fun vs H Q E h => ?_) (fun cdv A outer s H vs Q E hr h => ?_)
  · obtain ⟨x, dx, n, o, f, l, c, S, m, w, new, fr, R, P, rfl, hO, hk, hw, hf, k⟩ := h; rfl
  · obtain ⟨x, dx, n, o, f, l, c, S, m, w, new, fr, R, P, rfl, hO, hk, hw, hf, k⟩ := h
    refine ⟨_, (pss_cons (ps_expr (pe_call G_need_register (hr.mono (by decide)) rfl T.g_need_register T.F_need_register.kp T.b_need_register .nil pass0 (pa_cons (pv 1) pa_nil)))
        (pss_cons (ps_if (pt_not (pt_truth (pe_fld (pv 0) rfl) (by intro _; rfl)))
          (pss_one ps_never)
          pss_nil)
        (pss_cons (ps_set (i := 2) sc_Renamer_lent.nd rfl (Or.inl rfl) (pe_bm PySem.F.plainAttrs_list PySem.F.slot_list_pop PySem.F.type_list_pop mt_popAt (pe_fld (pv 0) rfl) (pa_cons pe_int pa_nil)))
        (pss_cons (ps_set (i := 3) sc_Renamer_lent.nd rfl (Or.inl rfl) (pe_ix ix_list (pe_fld (pv 0) rfl) (pv 1) (fun _ _ => rfl)))
        (pss_cons (ps_asg (pv 2) (pg_sub (pe_fld (pv 0) rfl) (pv 1) set_list))
        (pss_cons (ps_expr (pe_bm PySem.F.plainAttrs_list PySem.F.slot_list_append PySem.F.type_list_append mt_append (pe_fld (pv 0) rfl) (pa_cons (pe_tup (pa_cons (pv 1) (pa_cons (pv 2) (pa_cons (pv 3) pa_nil)))) pa_nil)))
        (pss_one (ps_ret (pe_tup (pa_cons (pv 2) (pa_cons (pv 3) pa_nil))))))))))), ?_⟩
    clear G_need_register
    clear hr
    have hwi : 0 ≤ (w : Int) ∧ (w : Int) < 8 := by omega
    have aw := atW (ws := S.nm) (i := w) (by rw [hk.nm]; exact hw)
    have iw := ixW (ws := S.nm.map V.int) (i := w) (by simp [hk.nm]; exact hw)
    have b1 := hk.fl
    have b2 := hk.mb
    obtain ⟨nm, om, fr0, ld, cl⟩ := S
    dsimp only at hf aw iw b1
    subst hf
    have hF := hO
    simp only [rn, List.cons_append, List.nil_append] at hO k
    obtain ⟨lv, o1⟩ := hO.openL (a := l) (by walk_at "mem")
    replace hO := o1 _ (by walk_at "setat")
    have hll := (hO.pdp (vs := lv) (by walk_at "mem")).len
    rw [List.length_map] at hll
    clear o1
    have szl : lv.length < sizeLine := size_lt (by omega)
    have si : seqIndex? 0 ((new :: fr).map V.int).length = some 0 := si0
    have g0 : ((new :: fr).map V.int)[0]? = some (.int new) := rfl
    simp only [List.map_append, List.map_cons, List.map_nil] at k
    walk_at "go"
    apply k
    walk_at "fin"
end
end K67

set_option Elab.async false
set_option linter.all false
set_option maxRecDepth 100000
set_option maxHeartbeats 8000000

namespace K67
open PySem PySem.Spec PyProof.Rows L2 Hx 
local macro_rules | `(tactic| walk_at "sm") => `(tactic| repeat' (first | assumption | apply Hx.Same.upd | exact L2.Same.refl _ | apply same_trans'))
local macro_rules | `(tactic| walk_at "hp") => `(tactic| repeat' (first | assumption | exact upd_same | apply old_upd | apply same_at))
local macro_rules | `(tactic| walk_at "rd") => `(tactic| repeat' (first | rfl | apply Exists.intro | apply And.intro | refine iteT ?_ | refine iteF ?_ | exact upd_same | exact SqL.of (by assumption) | exact SqL.of upd_same | exact SqT.of upd_same | exact SqT.of (by assumption) | ((with_reducible show (_ : Int) < _); omega) | ((with_reducible show (_ : Int) ≤ _); omega) | (show (_ : Prop); assumption) | exact Or.inl ⟨_, by assumption, rfl⟩ | exact Or.inl ⟨rfl, _, SqL.of (by assumption)⟩ | exact Or.inl ⟨rfl, _, SqL.of upd_same⟩ | apply old_upd | apply Hx.SqL.new | apply tyl_new | apply Pot.new | exact same_at (by assumption) (by assumption) | exact Or.inl (SqL.of (by assumption)) | exact Or.inl (by assumption) | exact Or.inl (SqL.of upd_same) | exact size_le (Nat.le_of_ble_eq_true rfl) | exact Nat.le_of_ble_eq_true rfl | exact True.intro | exact Or.inl rfl | exact Or.inr rfl | (show (_ : Prop); omega) | (show (_ : Prop); dsimp only; omega) | exact mulw64 (by omega) (by omega) | exact mulw64 (by (try dsimp only); omega) (by (try dsimp only); omega)))
set_option hygiene false in
local macro_rules | `(tactic| walk_at "fl") => `(tactic| simp only [pu_Renamer_new_map, pi_Renamer_new_map, pu_Renamer_old_map, pi_Renamer_old_map, pu_Renamer_free, pi_Renamer_free, pu_Renamer_lendings, pi_Renamer_lendings, pu_Renamer_cells, pi_Renamer_cells] at hO)
local macro_rules | `(tactic| walk_at "mem") => `(tactic| ((repeat (first | exact List.Mem.head _ | apply List.Mem.tail | fail)); done))
local macro_rules | `(tactic| walk_at "setat") => `(tactic| ((repeat (first | (with_reducible exact At.head) | (with_reducible apply At.tail) | (with_reducible apply At.app) | fail)); done))
set_option hygiene false in
local macro_rules | `(tactic| walk_at "dv") => `(tactic| ((repeat' (first | exact Dv.nil | exact Dv.of (by walk_at "mem") | exact Dv.ints _ | exact Dv1.of (by walk_at "mem") | exact Dv1.int _ | exact Dv1.non | exact Dv1.bl _ | exact Dv1.str _ | (with_reducible apply Dv.cons) | refine Dv1.tup (by walk_at "mem") ?_ | refine Dv1.lst (by walk_at "mem") ?_ | (with_reducible apply Dv.app) | fail)); done))
local macro_rules | `(tactic| walk_at "ft") => `(tactic| (first | (with_reducible exact Ft.refl) | ((with_reducible apply Ft.toL); focus walk_at "dv") | ((with_reducible apply Ft.toS); focus assumption) | (with_reducible apply Ft.lst) | (with_reducible apply Ft.Le) | (with_reducible apply Ft.dK) | (with_reducible apply Ft.De) | (with_reducible apply Ft.ins) | (with_reducible apply Ft.toL) | (with_reducible apply Ft.toS) | (with_reducible apply Ft.toD) | fail))
local macro_rules | `(tactic| walk_at "sbL") => `(tactic| repeat' (first | (with_reducible exact Sb.refl _) | exact Sb.nil | (with_reducible apply Sb.cons) | (with_reducible apply Sb.app) | (with_reducible exact Pk.one) | (with_reducible exact Pk.here) | (with_reducible exact Pk.all) | (with_reducible apply Pk.skip1) | (with_reducible apply Pk.skipB) | (with_reducible apply Sb.skip) | (with_reducible apply Sb.skipB) | ((with_reducible show Ft _ _ _ _); walk_at "ft") | ((with_reducible show (_ : List _) = _); (first | rfl | (simp [List.map_set, List.map_append]; done) | fail)) | fail))
local macro_rules | `(tactic| walk_at "sb") => `(tactic| ((walk_at "sbL"); done))
local macro_rules | `(tactic| walk_at "ps") => `(tactic| ((repeat' (first | (with_reducible exact Ps.refl) | exact Ps.nil | (with_reducible apply Ps.cons) | exact List.Mem.head _ | apply List.Mem.tail | (with_reducible apply Ps.skip) | fail)); done))
set_option hygiene false in
local macro_rules | `(tactic| walk_at "at") => `(tactic| first | assumption | exact Own.raw hO (by walk_at "mem") | exact Own.ptup hO (by walk_at "mem") | exact Own.plst hO (by walk_at "mem") | fail)
set_option hygiene false in
local macro_rules | `(tactic| walk_at "st") => `(tactic| (rw [upd_mkO hO]; generalize e : updX _ _ _ = H1; (first | ((apply Own.cset hO e); (focus walk_at "setat"); (try clear hO e); intro hO) | ((apply Own.cnewT hO e); (focus assumption); (try clear hO e); intro hO) | ((apply Own.cnew hO e); (focus assumption); (try clear hO e); intro hO) | fail)))
set_option hygiene false in
local macro_rules | `(tactic| walk_at "mk") => `(tactic| (intro p1 p2 f1 f2 f3; rw [upd_mkO hO]; generalize e : upd (updX _ _ _) _ _ = H1; apply Own.cmake hO f1 f2 f3 e; (try clear hO e); intro hO))
set_option hygiene false in
local macro_rules | `(tactic| walk_at "own") => `(tactic| (first | ((apply Own.sub hO); (focus walk_at "sb"); (focus walk_at "ps")) | ((apply Own.sub hF); (focus walk_at "sb"); (focus walk_at "ps")) | fail))
set_option hygiene false in
local macro_rules | `(tactic| walk_at "fin") => `(tactic| (refine Own.sub hO ?_ (by walk_at "ps"); walk_at "sbL"))
set_option hygiene false in
local macro_rules | `(tactic| walk_at "g1") => `(tactic| (first
 | ((with_reducible show (_ : Option HO) = _); walk_at "at")
 | ((with_reducible show (_ : Int) < _); omega) | ((with_reducible show (_ : Int) ≤ _); omega)
 | ((with_reducible show (_ : Nat) < _); (first | assumption | exact Nat.le_of_ble_eq_true rfl | exact size_lt (Nat.le_of_ble_eq_true rfl) | omega | (simp; done) | (simp; omega) | fail))
 | ((with_reducible show (_ : Nat) ≤ _); (first | assumption | exact Nat.le_of_ble_eq_true rfl | exact size_le (Nat.le_of_ble_eq_true rfl) | omega | (simp; done) | (simp; omega) | fail))
 | ((with_reducible show Own _ _ _ _); (first | walk_at "own" | (walk_at "st"; walk_at "own") | fail))
 | ((with_reducible show SqL _ _ _ _); (first | assumption | exact SqL.of (by walk_at "at") | fail))
 | ((with_reducible show SqT _ _ _ _); (first | assumption | exact hO.psq (by walk_at "mem") | exact SqT.of (by walk_at "at") | fail))
  | ((with_reducible show Cls _ _); exact Txt.cl_Renamer T) | ((with_reducible show NoAttr _ _ _); exact Txt.n_Renamer_new_map T) | (with_reducible exact gt_Renamer_new_map) | ((with_reducible show NoAttr _ _ _); exact Txt.n_Renamer_old_map T) | (with_reducible exact gt_Renamer_old_map) | ((with_reducible show NoAttr _ _ _); exact Txt.n_Renamer_free T) | (with_reducible exact gt_Renamer_free) | ((with_reducible show NoAttr _ _ _); exact Txt.n_Renamer_lendings T) | (with_reducible exact gt_Renamer_lendings) | ((with_reducible show NoAttr _ _ _); exact Txt.n_Renamer_cells T) | (with_reducible exact gt_Renamer_cells)
 | ((with_reducible show SqL _ _ _ _ ∨ SqT _ _ _ _); (first | exact Or.inl (SqL.of (by walk_at "at")) | exact Or.inr (SqT.of (by walk_at "at")) | fail))
 | ((with_reducible show Dp _ _ _ _); (first | assumption | exact hO.dpL (by walk_at "mem") | exact .lst (SqL.of (by walk_at "at")) (hO.all (by walk_at "dv")) | exact hO.one (by walk_at "dv") | fail))
 | ((with_reducible show TruV _ _ _ _); (first | exact Or.inl ⟨_, SqL.of (by walk_at "at"), rfl⟩ | exact Or.inr (Or.inr ⟨_, by walk_at "at", rfl⟩) | exact Or.inr (Or.inl ⟨_, SqT.of (by walk_at "at"), rfl⟩) | fail))
 | ((with_reducible show RgOk _ _); exact RgOk.of_le (by omega) (by omega) (by omega) (by omega))
 | rfl | (with_reducible assumption) | apply And.intro | apply Exists.intro | refine iteT ?_ | refine iteF ?_
 | (walk_at "st"; (try walk_at "fl"))
 | ((with_reducible show ∀ _ : Addr, _ = none → _); (fail_if_success (with_reducible show ∀ _ : Addr, _ = none → ∃ _ : Nat → Nat → Hp → Prop, _)); intro p fp; walk_at "st")
 | (refine Or.inl ⟨SqL.of (by walk_at "at"), ?_⟩) | (refine Or.inr ⟨SqT.of (by walk_at "at"), ?_⟩) | exact Or.inl ⟨_, by walk_at "at", rfl⟩ | exact Or.inl ⟨rfl, _, SqL.of (by walk_at "at")⟩ | exact tyl_of (by walk_at "at") | exact Or.inl (SqL.of (by walk_at "at")) | exact Or.inr (SqT.of (by walk_at "at")) | exact Or.inl (by walk_at "at") | exact size_le (Nat.le_of_ble_eq_true rfl) | exact Nat.le_of_ble_eq_true rfl | exact True.intro | exact Or.inl rfl | exact Or.inr rfl | (show (_ : Prop); assumption) | (show (_ : Prop); omega) | (show (_ : Prop); dsimp only; omega) | exact mulw64 (by omega) (by omega) | exact mulw64 (by (try dsimp only); omega) (by (try dsimp only); omega) | fail))
local macro_rules | `(tactic| walk_at "go") => `(tactic| repeat walk_at "g1")

section
variable {P : Program} {w : World} {K : PySem.W.Frag} {mg : Str → Option Value} {base : Heap}
def sp_put (K : PySem.W.Frag) (C : Addr) : Sp := fun vs H Q _ => ∃ (x dx n o f l c : Addr) (S : RS) (m i : Nat) (v : Int) (R : List (Addr × Ob)) (P : List Pf), vs = [.ref x, .int (i : Int), .int v] ∧ Own K H (rn C x dx n o f l c S ++ R) P ∧ Ok S m ∧ i < m ∧ (0 ≤ v ∧ v < 65536) ∧ S.cl.getD i none = none ∧ (i : Int) ∉ S.fr ∧ ∀ (H' : Hp), Own K H' (rn C x dx n o f l c ⟨S.nm, S.om, S.fr, S.ld, S.cl.set i (some v)⟩ ++ R) P → Q .non H'
theorem ok_Renamer_put (T : Txt K mg) : FnOk P w K mg base CX0 5 T.f_Renamer_put T.fd_Renamer_put ["self", "at", "value"] (sp_put K T.C_Renamer) := by
  have G_Renamerneed_cell := ok_Renamerneed_cell (P := P) (w := w) (base := base) T
  have G_need_word := ok_need_word (P := P) (w := w) (base := base) T
  refine T.F_Renamer_put.ok sc_Renamer_put (fun vs H Q E h => ?_) (fun cdv A outer s H vs Q E hr h => ?_)
  · obtain ⟨x, dx, n, o, f, l, c, S, m, i, v, R, P, rfl, hO, hk, hi, hv, hno, hnf, k⟩ := h; rfl
  · obtain ⟨x, dx, n, o, f, l, c, S, m, i, v, R, P, rfl, hO, hk, hi, hv, hno, hnf, k⟩ := h
    refine ⟨_, (pss_cons (ps_expr (pe_meth (pv 0) T.cl_Renamer T.me_Renamerneed_cell G_Renamerneed_cell (hr.mono (by decide)) T.b_Renamerneed_cell .nil pass0 (pa_cons (pv 1) pa_nil)))
        (pss_cons (ps_expr (pe_call G_need_word (hr.mono (by decide)) rfl T.g_need_word T.F_need_word.kp T.b_need_word .nil pass0 (pa_cons (pv 2) pa_nil)))
        (pss_cons (ps_if (PW.pt (pw_or (pt_cmpR op_notN (pe_ix ix_list (pe_fld (pv 0) rfl) (pv 1) (fun _ _ => rfl)) pe_non (nomark _)) (pw_or1 (pt_cmpR op_in_seq (pv 1) (pe_fld (pv 0) rfl) (by rfl)))))
          (pss_one ps_never)
          pss_nil)
        (pss_one (ps_asg (pv 2) (pg_sub (pe_fld (pv 0) rfl) (pv 1) set_list)))))), ?_⟩
    clear G_Renamerneed_cell G_need_word
    clear hr
    have hii : 0 ≤ (i : Int) ∧ (i : Int) < m := by omega
    have len := hk.cl
    have ac := atO (ws := S.cl) (i := i) (by omega)
    rw [hno] at ac
    have iw := ixW (ws := S.cl.map oV) (i := i) (by simp; omega)
    have ff := flat_ints S.fr
    have hF := hO
    simp only [rn, List.cons_append, List.nil_append] at hO k
    walk_at "go"
    rw [inV_ints, decide_eq_false hnf]
    walk_at "go"
    apply k
    walk_at "fin"
def sp_undone (K : PySem.W.Frag) (C : Addr) : Sp := fun vs H Q _ => ∃ (x dx n o f l c : Addr) (S : RS) (ld : List Ln) (m w i : Nat) (j : Int) (R : List (Addr × Ob)) (P : List Pf), vs = [.ref x, .int (w : Int), .int (i : Int), .int j] ∧ Own K H (rn C x dx n o f l c S ++ R) P ∧ Ok S m ∧ S.ld = ld ++ [((w : Int), (i : Int), j)] ∧ ∀ (H' : Hp), Own K H' (rn C x dx n o f l c ⟨S.nm.set w j, S.om, (i : Int) :: S.fr, ld, S.cl.set i none⟩ ++ R) P → Q .non H'
theorem ok_Renamer_undone (T : Txt K mg) : FnOk P w K mg base CX0 6 T.f_Renamer_undone T.fd_Renamer_undone ["self", "which", "new", "old"] (sp_undone K T.C_Renamer) := by
  have G_Renamerneed_lending := ok_Renamerneed_lending (P := P) (w := w) (base := base) T
  refine T.F_Renamer_undone.ok sc_Renamer_undone (fun vs H Q E h => ?_) (fun cdv A outer s H vs Q E hr h => ?_)
  · obtain ⟨x, dx, n, o, f, l, c, S, ld, m, w, i, j, R, P, rfl, hO, hk, hld, k⟩ := h; rfl
  · obtain ⟨x, dx, n, o, f, l, c, S, ld, m, w, i, j, R, P, rfl, hO, hk, hld, k⟩ := h
    refine ⟨_, (pss_cons (ps_expr (pe_meth (pv 0) T.cl_Renamer T.me_Renamerneed_lending G_Renamerneed_lending (hr.mono (by decide)) T.b_Renamerneed_lending .nil pass0 (pa_cons (pv 1) (pa_cons (pv 2) (pa_cons (pv 3) pa_nil)))))
        (pss_cons (ps_if (pt_cmpR (op_neS hr.units) (pe_slice sl_list (pe_fld (pv 0) rfl) (po_some (pe_un un_neg pe_int)) po_none) (pe_lst (pa_cons (pe_tup (pa_cons (pv 1) (pa_cons (pv 2) (pa_cons (pv 3) pa_nil)))) pa_nil)) (nomark _))
          (pss_one ps_never)
          pss_nil)
        (pss_cons (ps_expr (pe_bm0 PySem.F.plainAttrs_list PySem.F.slot_list_pop PySem.F.type_list_pop mt_pop (pe_fld (pv 0) rfl)))
        (pss_cons (ps_asg (pv 3) (pg_sub (pe_fld (pv 0) rfl) (pv 1) set_list))
        (pss_cons (ps_asg pe_non (pg_sub (pe_fld (pv 0) rfl) (pv 2) set_list))
        (pss_one (ps_expr (pe_bm PySem.F.plainAttrs_list PySem.F.slot_list_insert PySem.F.type_list_insert mt_insert (pe_fld (pv 0) rfl) (pa_cons pe_int (pa_cons (pv 2) pa_nil)))))))))), ?_⟩
    clear G_Renamerneed_lending
    clear hr
    have bl := hk.bl _ (by rw [hld]; simp : ((w : Int), (i : Int), j) ∈ S.ld)
    have b1 : 0 ≤ (w : Int) ∧ (w : Int) < 8 := bl.1
    have b2 : 0 ≤ (i : Int) ∧ (i : Int) < m := bl.2.1
    have b3 : 0 ≤ j ∧ j < m := bl.2.2
    clear bl
    have lenm := hk.nm
    have lenc := hk.cl
    have iw := ixW (ws := S.nm.map V.int) (i := w) (by simp; omega)
    have ic := ixW (ws := S.cl.map oV) (i := i) (by simp; omega)
    have szf : (S.fr.map V.int).length < sizeLine := size_lt (by have := hk.fl; have := hk.mb; simp; omega)
    have hF := hO
    simp only [rn, List.cons_append, List.nil_append] at hO k
    obtain ⟨lv, o1⟩ := hO.openL (a := l) (by walk_at "mem")
    replace hO := o1 _ (by walk_at "setat")
    have hll := (hO.pdp (vs := lv) (by walk_at "mem")).len
    rw [List.length_map] at hll
    clear o1
    obtain ⟨lv0, v9, rfl⟩ : ∃ a b, lv = a ++ [b] := by
      rcases List.eq_nil_or_concat lv with h | ⟨a, b, h⟩
      · rw [h, hld] at hll; simp at hll
      · exact ⟨a, b, by rw [h, List.concat_eq_append]⟩
    rw [hld] at hll
    have hl0 : lv0.length = (ld.map lnD).length := by simp at hll; simpa using hll
    have hlp : 0 < (lv0 ++ [v9]).length := by simp
    have gl9 : (lv0 ++ [v9])[(lv0 ++ [v9]).length - 1]? = some v9 := by simp
    rw [hld, List.map_append] at hO
    replace hO := hO.dv1 (v := v9) (d := lnD ((w : Int), (i : Int), j)) ((Dv.of (by walk_at "mem") : Dv K _ (lv0 ++ [v9]) (ld.map lnD ++ [lnD ((w : Int), (i : Int), j)])).snd hl0).hd
    replace hO := hO.dv (vs := lv0) (ds := ld.map lnD) ((Dv.of (by walk_at "mem") : Dv K _ (lv0 ++ [v9]) (ld.map lnD ++ [lnD ((w : Int), (i : Int), j)])).fst hl0)
    walk_at "go"
    rw [cut_last] at hO
    walk_at "go"
    rw [List.dropLast_concat] at hO
    apply k
    walk_at "fin"
end
end K67

set_option Elab.async false
set_option linter.all false
set_option maxRecDepth 100000
set_option maxHeartbeats 8000000

namespace K67
open PySem PySem.Spec PyProof.Rows L2 Hx 
local macro_rules | `(tactic| walk_at "sm") => `(tactic| repeat' (first | assumption | apply Hx.Same.upd | exact L2.Same.refl _ | apply same_trans'))
local macro_rules | `(tactic| walk_at "hp") => `(tactic| repeat' (first | assumption | exact upd_same | apply old_upd | apply same_at))
local macro_rules | `(tactic| walk_at "rd") => `(tactic| repeat' (first | rfl | apply Exists.intro | apply And.intro | refine iteT ?_ | refine iteF ?_ | exact upd_same | exact SqL.of (by assumption) | exact SqL.of upd_same | exact SqT.of upd_same | exact SqT.of (by assumption) | ((with_reducible show (_ : Int) < _); omega) | ((with_reducible show (_ : Int) ≤ _); omega) | (show (_ : Prop); assumption) | exact Or.inl ⟨_, by assumption, rfl⟩ | exact Or.inl ⟨rfl, _, SqL.of (by assumption)⟩ | exact Or.inl ⟨rfl, _, SqL.of upd_same⟩ | apply old_upd | apply Hx.SqL.new | apply tyl_new | apply Pot.new | exact same_at (by assumption) (by assumption) | exact Or.inl (SqL.of (by assumption)) | exact Or.inl (by assumption) | exact Or.inl (SqL.of upd_same) | exact size_le (Nat.le_of_ble_eq_true rfl) | exact Nat.le_of_ble_eq_true rfl | exact True.intro | exact Or.inl rfl | exact Or.inr rfl | (show (_ : Prop); omega) | (show (_ : Prop); dsimp only; omega) | exact mulw64 (by omega) (by omega) | exact mulw64 (by (try dsimp only); omega) (by (try dsimp only); omega)))
set_option hygiene false in
local macro_rules | `(tactic| walk_at "fl") => `(tactic| simp only [pu_Renamer_new_map, pi_Renamer_new_map, pu_Renamer_old_map, pi_Renamer_old_map, pu_Renamer_free, pi_Renamer_free, pu_Renamer_lendings, pi_Renamer_lendings, pu_Renamer_cells, pi_Renamer_cells] at hO)
local macro_rules | `(tactic| walk_at "mem") => `(tactic| ((repeat (first | exact List.Mem.head _ | apply List.Mem.tail | fail)); done))
local macro_rules | `(tactic| walk_at "setat") => `(tactic| ((repeat (first | (with_reducible exact At.head) | (with_reducible apply At.tail) | (with_reducible apply At.app) | fail)); done))
set_option hygiene false in
local macro_rules | `(tactic| walk_at "dv") => `(tactic| ((repeat' (first | exact Dv.nil | exact Dv.of (by walk_at "mem") | exact Dv.ints _ | exact Dv1.of (by walk_at "mem") | exact Dv1.int _ | exact Dv1.non | exact Dv1.bl _ | exact Dv1.str _ | (with_reducible apply Dv.cons) | refine Dv1.tup (by walk_at "mem") ?_ | refine Dv1.lst (by walk_at "mem") ?_ | (with_reducible apply Dv.app) | fail)); done))
local macro_rules | `(tactic| walk_at "ft") => `(tactic| (first | (with_reducible exact Ft.refl) | ((with_reducible apply Ft.toL); focus walk_at "dv") | ((with_reducible apply Ft.toS); focus assumption) | (with_reducible apply Ft.lst) | (with_reducible apply Ft.Le) | (with_reducible apply Ft.dK) | (with_reducible apply Ft.De) | (with_reducible apply Ft.ins) | (with_reducible apply Ft.toL) | (with_reducible apply Ft.toS) | (with_reducible apply Ft.toD) | fail))
local macro_rules | `(tactic| walk_at "sbL") => `(tactic| repeat' (first | (with_reducible exact Sb.refl _) | exact Sb.nil | (with_reducible apply Sb.cons) | (with_reducible apply Sb.app) | (with_reducible exact Pk.one) | (with_reducible exact Pk.here) | (with_reducible exact Pk.all) | (with_reducible apply Pk.skip1) | (with_reducible apply Pk.skipB) | (with_reducible apply Sb.skip) | (with_reducible apply Sb.skipB) | ((with_reducible show Ft _ _ _ _); walk_at "ft") | ((with_reducible show (_ : List _) = _); (first | rfl | (simp [List.map_set, List.map_append]; done) | fail)) | fail))
local macro_rules | `(tactic| walk_at "sb") => `(tactic| ((walk_at "sbL"); done))
local macro_rules | `(tactic| walk_at "ps") => `(tactic| ((repeat' (first | (with_reducible exact Ps.refl) | exact Ps.nil | (with_reducible apply Ps.cons) | exact List.Mem.head _ | apply List.Mem.tail | (with_reducible apply Ps.skip) | fail)); done))
set_option hygiene false in
local macro_rules | `(tactic| walk_at "at") => `(tactic| first | assumption | exact Own.raw hO (by walk_at "mem") | exact Own.ptup hO (by walk_at "mem") | exact Own.plst hO (by walk_at "mem") | fail)
set_option hygiene false in
local macro_rules | `(tactic| walk_at "st") => `(tactic| (rw [upd_mkO hO]; generalize e : updX _ _ _ = H1; (first | ((apply Own.cset hO e); (focus walk_at "setat"); (try clear hO e); intro hO) | ((apply Own.cnewT hO e); (focus assumption); (try clear hO e); intro hO) | ((apply Own.cnew hO e); (focus assumption); (try clear hO e); intro hO) | fail)))
set_option hygiene false in
local macro_rules | `(tactic| walk_at "mk") => `(tactic| (intro p1 p2 f1 f2 f3; rw [upd_mkO hO]; generalize e : upd (updX _ _ _) _ _ = H1; apply Own.cmake hO f1 f2 f3 e; (try clear hO e); intro hO))
set_option hygiene false in
local macro_rules | `(tactic| walk_at "own") => `(tactic| (first | ((apply Own.sub hO); (focus walk_at "sb"); (focus walk_at "ps")) | ((apply Own.sub hF); (focus walk_at "sb"); (focus walk_at "ps")) | fail))
set_option hygiene false in
local macro_rules | `(tactic| walk_at "fin") => `(tactic| (refine Own.sub hO ?_ (by walk_at "ps"); walk_at "sbL"))
set_option hygiene false in
local macro_rules | `(tactic| walk_at "g1") => `(tactic| (first
 | ((with_reducible show (_ : Option HO) = _); walk_at "at")
 | ((with_reducible show (_ : Int) < _); omega) | ((with_reducible show (_ : Int) ≤ _); omega)
 | ((with_reducible show (_ : Nat) < _); (first | assumption | exact Nat.le_of_ble_eq_true rfl | exact size_lt (Nat.le_of_ble_eq_true rfl) | omega | (simp; done) | (simp; omega) | fail))
 | ((with_reducible show (_ : Nat) ≤ _); (first | assumption | exact Nat.le_of_ble_eq_true rfl | exact size_le (Nat.le_of_ble_eq_true rfl) | omega | (simp; done) | (simp; omega) | fail))
 | ((with_reducible show Own _ _ _ _); (first | walk_at "own" | (walk_at "st"; walk_at "own") | fail))
 | ((with_reducible show SqL _ _ _ _); (first | assumption | exact SqL.of (by walk_at "at") | fail))
 | ((with_reducible show SqT _ _ _ _); (first | assumption | exact hO.psq (by walk_at "mem") | exact SqT.of (by walk_at "at") | fail))
  | ((with_reducible show Cls _ _); exact Txt.cl_Renamer T) | ((with_reducible show NoAttr _ _ _); exact Txt.n_Renamer_new_map T) | (with_reducible exact gt_Renamer_new_map) | ((with_reducible show NoAttr _ _ _); exact Txt.n_Renamer_old_map T) | (with_reducible exact gt_Renamer_old_map) | ((with_reducible show NoAttr _ _ _); exact Txt.n_Renamer_free T) | (with_reducible exact gt_Renamer_free) | ((with_reducible show NoAttr _ _ _); exact Txt.n_Renamer_lendings T) | (with_reducible exact gt_Renamer_lendings) | ((with_reducible show NoAttr _ _ _); exact Txt.n_Renamer_cells T) | (with_reducible exact gt_Renamer_cells)
 | ((with_reducible show SqL _ _ _ _ ∨ SqT _ _ _ _); (first | exact Or.inl (SqL.of (by walk_at "at")) | exact Or.inr (SqT.of (by walk_at "at")) | fail))
 | ((with_reducible show Dp _ _ _ _); (first | assumption | exact hO.dpL (by walk_at "mem") | exact .lst (SqL.of (by walk_at "at")) (hO.all (by walk_at "dv")) | exact hO.one (by walk_at "dv") | fail))
 | ((with_reducible show TruV _ _ _ _); (first | exact Or.inl ⟨_, SqL.of (by walk_at "at"), rfl⟩ | exact Or.inr (Or.inr ⟨_, by walk_at "at", rfl⟩) | exact Or.inr (Or.inl ⟨_, SqT.of (by walk_at "at"), rfl⟩) | fail))
 | ((with_reducible show RgOk _ _); exact RgOk.of_le (by omega) (by omega) (by omega) (by omega))
 | rfl | (with_reducible assumption) | apply And.intro | apply Exists.intro | refine iteT ?_ | refine iteF ?_
 | (walk_at "st"; (try walk_at "fl"))
 | ((with_reducible show ∀ _ : Addr, _ = none → _); (fail_if_success (with_reducible show ∀ _ : Addr, _ = none → ∃ _ : Nat → Nat → Hp → Prop, _)); intro p fp; walk_at "st")
 | (refine Or.inl ⟨SqL.of (by walk_at "at"), ?_⟩) | (refine Or.inr ⟨SqT.of (by walk_at "at"), ?_⟩) | exact Or.inl ⟨_, by walk_at "at", rfl⟩ | exact Or.inl ⟨rfl, _, SqL.of (by walk_at "at")⟩ | exact tyl_of (by walk_at "at") | exact Or.inl (SqL.of (by walk_at "at")) | exact Or.inr (SqT.of (by walk_at "at")) | exact Or.inl (by walk_at "at") | exact size_le (Nat.le_of_ble_eq_true rfl) | exact Nat.le_of_ble_eq_true rfl | exact True.intro | exact Or.inl rfl | exact Or.inr rfl | (show (_ : Prop); assumption) | (show (_ : Prop); omega) | (show (_ : Prop); dsimp only; omega) | exact mulw64 (by omega) (by omega) | exact mulw64 (by (try dsimp only); omega) (by (try dsimp only); omega) | fail))
local macro_rules | `(tactic| walk_at "go") => `(tactic| repeat walk_at "g1")

section
variable {P : Program} {w : World} {K : PySem.W.Frag} {mg : Str → Option Value} {base : Heap}
def sp_kept (K : PySem.W.Frag) (C : Addr) : Sp := fun vs H Q _ => ∃ (x dx n o f l c : Addr) (S : RS) (ld : List Ln) (m w i j : Nat) (R : List (Addr × Ob)) (P : List Pf), vs = [.ref x, .int (w : Int), .int (i : Int), .int (j : Int)] ∧ Own K H (rn C x dx n o f l c S ++ R) P ∧ Ok S m ∧ S.ld = ((w : Int), (i : Int), (j : Int)) :: ld ∧ (∃ v, S.cl.getD i none = some v) ∧ ∀ (H' : Hp), Own K H' (rn C x dx n o f l c ⟨S.nm, S.om.set w (i : Int), S.fr ++ [(j : Int)], ld, S.cl.set j none⟩ ++ R) P → Q .non H'
theorem ok_Renamer_kept (T : Txt K mg) : FnOk P w K mg base CX0 6 T.f_Renamer_kept T.fd_Renamer_kept ["self", "which", "new", "old"] (sp_kept K T.C_Renamer) := by
  have G_Renamerneed_lending := ok_Renamerneed_lending (P := P) (w := w) (base := base) T
  refine T.F_Renamer_kept.ok sc_Renamer_kept (fun vs H Q E h => ?_) (fun cdv A outer s H vs Q E hr h => ?_)
  · obtain ⟨x, dx, n, o, f, l, c, S, ld, m, w, i, j, R, P, rfl, hO, hk, hld, ⟨cv, hcv⟩, k⟩ := h; rfl
  · obtain ⟨x, dx, n, o, f, l, c, S, ld, m, w, i, j, R, P, rfl, hO, hk, hld, ⟨cv, hcv⟩, k⟩ := h
    refine ⟨_, (pss_cons (ps_expr (pe_meth (pv 0) T.cl_Renamer T.me_Renamerneed_lending G_Renamerneed_lending (hr.mono (by decide)) T.b_Renamerneed_lending .nil pass0 (pa_cons (pv 1) (pa_cons (pv 2) (pa_cons (pv 3) pa_nil)))))
        (pss_cons (ps_if (pt_cmpR (op_neS hr.units) (pe_slice sl_list (pe_fld (pv 0) rfl) po_none (po_some pe_int)) (pe_lst (pa_cons (pe_tup (pa_cons (pv 1) (pa_cons (pv 2) (pa_cons (pv 3) pa_nil)))) pa_nil)) (nomark _))
          (pss_one ps_never)
          pss_nil)
        (pss_cons (ps_if (pt_cmpR op_isN (pe_ix ix_list (pe_fld (pv 0) rfl) (pv 2) (fun _ _ => rfl)) pe_non (nomark _))
          (pss_one ps_never)
          pss_nil)
        (pss_cons (ps_expr (pe_bm PySem.F.plainAttrs_list PySem.F.slot_list_pop PySem.F.type_list_pop mt_popAt (pe_fld (pv 0) rfl) (pa_cons pe_int pa_nil)))
        (pss_cons (ps_asg (pv 2) (pg_sub (pe_fld (pv 0) rfl) (pv 1) set_list))
        (pss_cons (ps_asg pe_non (pg_sub (pe_fld (pv 0) rfl) (pv 3) set_list))
        (pss_one (ps_expr (pe_bm PySem.F.plainAttrs_list PySem.F.slot_list_append PySem.F.type_list_append mt_append (pe_fld (pv 0) rfl) (pa_cons (pv 3) pa_nil)))))))))), ?_⟩
    clear G_Renamerneed_lending
    clear hr
    have bl := hk.bl _ (by rw [hld]; simp : ((w : Int), (i : Int), (j : Int)) ∈ S.ld)
    have b1 : 0 ≤ (w : Int) ∧ (w : Int) < 8 := bl.1
    have b2 : 0 ≤ (i : Int) ∧ (i : Int) < m := bl.2.1
    have b3 : 0 ≤ (j : Int) ∧ (j : Int) < m := bl.2.2
    clear bl
    have lenm := hk.om
    have lenc := hk.cl
    have ac := atO (ws := S.cl) (i := i) (by omega)
    rw [hcv] at ac
    have iw := ixW (ws := S.om.map V.int) (i := w) (by simp; omega)
    have ic := ixW (ws := S.cl.map oV) (i := j) (by simp; omega)
    have szf : (S.fr.map V.int).length < sizeLine := size_lt (by have := hk.fl; have := hk.mb; simp; omega)
    have hF := hO
    simp only [rn, List.cons_append, List.nil_append] at hO k
    obtain ⟨lv, o1⟩ := hO.openL (a := l) (by walk_at "mem")
    replace hO := o1 _ (by walk_at "setat")
    have hll := (hO.pdp (vs := lv) (by walk_at "mem")).len
    rw [List.length_map] at hll
    clear o1
    rw [hld] at hll
    obtain ⟨v9, lv0, rfl⟩ : ∃ a b, lv = a :: b := by
      cases lv with
      | nil => simp at hll
      | cons a b => exact ⟨a, b, rfl⟩
    have hc : cutV (v9 :: lv0) none (some 1) = [v9] := cut_to (v9 :: lv0) 1
    have si : seqIndex? 0 (v9 :: lv0).length = some 0 := si0
    have g0 : (v9 :: lv0)[0]? = some v9 := rfl
    rw [hld, List.map_cons] at hO
    replace hO := hO.dv1 (v := v9) (d := lnD ((w : Int), (i : Int), (j : Int))) (Dv.of (by walk_at "mem") : Dv K _ (v9 :: lv0) (lnD ((w : Int), (i : Int), (j : Int)) :: ld.map lnD)).hd
    replace hO := hO.dv (vs := lv0) (ds := ld.map lnD) (Dv.of (by walk_at "mem") : Dv K _ (v9 :: lv0) (lnD ((w : Int), (i : Int), (j : Int)) :: ld.map lnD)).tl
    walk_at "go"
    rw [hc] at hO
    walk_at "go"
    apply k
    walk_at "fin"
def sp_written (K : PySem.W.Frag) (C : Addr) : Sp := fun vs H Q _ => ∃ (x dx n o f l c : Addr) (S : RS) (m w c0 : Nat) (v : Int) (R : List (Addr × Ob)) (P : List Pf), vs = [.ref x, .int (w : Int), .int v] ∧ Own K H (rn C x dx n o f l c S ++ R) P ∧ Ok S m ∧ w < 8 ∧ (0 ≤ v ∧ v < 65536) ∧ S.ld = [] ∧ S.om.getD w 0 = (c0 : Int) ∧ ∀ (H' : Hp), Own K H' (rn C x dx n o f l c ⟨S.nm, S.om, S.fr, [], S.cl.set c0 (some v)⟩ ++ R) P → Q .non H'
theorem ok_Renamer_written (T : Txt K mg) : FnOk P w K mg base CX0 5 T.f_Renamer_written T.fd_Renamer_written ["self", "which", "value"] (sp_written K T.C_Renamer) := by
  have G_need_register := ok_need_register (P := P) (w := w) (base := base) T
  have G_need_word := ok_need_word (P := P) (w := w) (base := base) T
  refine T.F_Renamer_written.ok sc_Renamer_written (fun vs H Q E h => ?_) (fun cdv A outer s H vs Q E hr h => ?_)
  · obtain ⟨x, dx, n, o, f, l, c, S, m, w, c0, v, R, P, rfl, hO, hk, hw, hv, hld, hc0, k⟩ := h; rfl
  · obtain ⟨x, dx, n, o, f, l, c, S, m, w, c0, v, R, P, rfl, hO, hk, hw, hv, hld, hc0, k⟩ := h
    refine ⟨_, (pss_cons (ps_expr (pe_call G_need_register (hr.mono (by decide)) rfl T.g_need_register T.F_need_register.kp T.b_need_register .nil pass0 (pa_cons (pv 1) pa_nil)))
        (pss_cons (ps_expr (pe_call G_need_word (hr.mono (by decide)) rfl T.g_need_word T.F_need_word.kp T.b_need_word .nil pass0 (pa_cons (pv 2) pa_nil)))
        (pss_cons (ps_if (pt_truth (pe_fld (pv 0) rfl) (by intro _; rfl))
          (pss_one ps_never)
          pss_nil)
        (pss_one (ps_asg (pv 2) (pg_sub (pe_fld (pv 0) rfl) (pe_ix ix_list (pe_fld (pv 0) rfl) (pv 1) (fun _ _ => rfl)) set_list)))))), ?_⟩
    clear G_need_register G_need_word
    clear hr
    have hwi : 0 ≤ (w : Int) ∧ (w : Int) < 8 := by omega
    have lenm := hk.om
    have lenc := hk.cl
    have aw := atW (ws := S.om) (i := w) (by omega)
    rw [hc0] at aw
    have bo := hk.bo (c0 : Int) (by rw [← hc0, List.getD_eq_getElem?_getD, List.getElem?_eq_getElem (by omega)]; simp)
    have ic := ixW (ws := S.cl.map oV) (i := c0) (by simp; omega)
    have hF := hO
    simp only [rn, List.cons_append, List.nil_append] at hO k
    obtain ⟨lv, o1⟩ := hO.openL (a := l) (by walk_at "mem")
    replace hO := o1 _ (by walk_at "setat")
    have hll := (hO.pdp (vs := lv) (by walk_at "mem")).len
    rw [List.length_map] at hll
    clear o1
    rw [hld] at hll
    obtain rfl : lv = [] := List.length_eq_zero_iff.mp hll
    rw [hld] at hO
    walk_at "go"
    apply k
    walk_at "fin"
end
end K67

set_option Elab.async false
set_option linter.all false
set_option maxRecDepth 100000
set_option maxHeartbeats 8000000

namespace K67
open PySem PySem.Spec PyProof.Rows L2 Hx 
local macro_rules | `(tactic| walk_at "sm") => `(tactic| repeat' (first | assumption | apply Hx.Same.upd | exact L2.Same.refl _ | apply same_trans'))
local macro_rules | `(tactic| walk_at "hp") => `(tactic| repeat' (first | assumption | exact upd_same | apply old_upd | apply same_at))
local macro_rules | `(tactic| walk_at "rd") => `(tactic| repeat' (first | rfl | apply Exists.intro | apply And.intro | refine iteT ?_ | refine iteF ?_ | exact upd_same | exact SqL.of (by assumption) | exact SqL.of upd_same | exact SqT.of upd_same | exact SqT.of (by assumption) | ((with_reducible show (_ : Int) < _); omega) | ((with_reducible show (_ : Int) ≤ _); omega) | (show (_ : Prop); assumption) | exact Or.inl ⟨_, by assumption, rfl⟩ | exact Or.inl ⟨rfl, _, SqL.of (by assumption)⟩ | exact Or.inl ⟨rfl, _, SqL.of upd_same⟩ | apply old_upd | apply Hx.SqL.new | apply tyl_new | apply Pot.new | exact same_at (by assumption) (by assumption) | exact Or.inl (SqL.of (by assumption)) | exact Or.inl (by assumption) | exact Or.inl (SqL.of upd_same) | exact size_le (Nat.le_of_ble_eq_true rfl) | exact Nat.le_of_ble_eq_true rfl | exact True.intro | exact Or.inl rfl | exact Or.inr rfl | (show (_ : Prop); omega) | (show (_ : Prop); dsimp only; omega) | exact mulw64 (by omega) (by omega) | exact mulw64 (by (try dsimp only); omega) (by (try dsimp only); omega)))
set_option hygiene false in
local macro_rules | `(tactic| walk_at "fl") => `(tactic| simp only [pu_Renamer_new_map, pi_Renamer_new_map, pu_Renamer_old_map, pi_Renamer_old_map, pu_Renamer_free, pi_Renamer_free, pu_Renamer_lendings, pi_Renamer_lendings, pu_Renamer_cells, pi_Renamer_cells] at hO)
local macro_rules | `(tactic| walk_at "mem") => `(tactic| ((repeat (first | exact List.Mem.head _ | apply List.Mem.tail | fail)); done))
local macro_rules | `(tactic| walk_at "setat") => `(tactic| ((repeat (first | (with_reducible exact At.head) | (with_reducible apply At.tail) | (with_reducible apply At.app) | fail)); done))
set_option hygiene false in
local macro_rules | `(tactic| walk_at "dv") => `(tactic| ((repeat' (first | exact Dv.nil | exact Dv.of (by walk_at "mem") | exact Dv.ints _ | exact Dv1.of (by walk_at "mem") | exact Dv1.int _ | exact Dv1.non | exact Dv1.bl _ | exact Dv1.str _ | (with_reducible apply Dv.cons) | refine Dv1.tup (by walk_at "mem") ?_ | refine Dv1.lst (by walk_at "mem") ?_ | (with_reducible apply Dv.app) | fail)); done))
local macro_rules | `(tactic| walk_at "ft") => `(tactic| (first | (with_reducible exact Ft.refl) | ((with_reducible apply Ft.toL); focus walk_at "dv") | ((with_reducible apply Ft.toS); focus assumption) | (with_reducible apply Ft.lst) | (with_reducible apply Ft.Le) | (with_reducible apply Ft.dK) | (with_reducible apply Ft.De) | (with_reducible apply Ft.ins) | (with_reducible apply Ft.toL) | (with_reducible apply Ft.toS) | (with_reducible apply Ft.toD) | fail))
local macro_rules | `(tactic| walk_at "sbL") => `(tactic| repeat' (first | (with_reducible exact Sb.refl _) | exact Sb.nil | (with_reducible apply Sb.cons) | (with_reducible apply Sb.app) | (with_reducible exact Pk.one) | (with_reducible exact Pk.here) | (with_reducible exact Pk.all) | (with_reducible apply Pk.skip1) | (with_reducible apply Pk.skipB) | (with_reducible apply Sb.skip) | (with_reducible apply Sb.skipB) | ((with_reducible show Ft _ _ _ _); walk_at "ft") | ((with_reducible show (_ : List _) = _); (first | rfl | (simp [List.map_set, List.map_append]; done) | fail)) | fail))
local macro_rules | `(tactic| walk_at "sb") => `(tactic| ((walk_at "sbL"); done))
local macro_rules | `(tactic| walk_at "ps") => `(tactic| ((repeat' (first | (with_reducible exact Ps.refl) | exact Ps.nil | (with_reducible apply Ps.cons) | exact List.Mem.head _ | apply List.Mem.tail | (with_reducible apply Ps.skip) | fail)); done))
set_option hygiene false in
local macro_rules | `(tactic| walk_at "at") => `(tactic| first | assumption | exact Own.raw hO (by walk_at "mem") | exact Own.ptup hO (by walk_at "mem") | exact Own.plst hO (by walk_at "mem") | fail)
set_option hygiene false in
local macro_rules | `(tactic| walk_at "st") => `(tactic| (rw [upd_mkO hO]; generalize e : updX _ _ _ = H1; (first | ((apply Own.cset hO e); (focus walk_at "setat"); (try clear hO e); intro hO) | ((apply Own.cnewT hO e); (focus assumption); (try clear hO e); intro hO) | ((apply Own.cnew hO e); (focus assumption); (try clear hO e); intro hO) | fail)))
set_option hygiene false in
local macro_rules | `(tactic| walk_at "mk") => `(tactic| (intro p1 p2 f1 f2 f3; rw [upd_mkO hO]; generalize e : upd (updX _ _ _) _ _ = H1; apply Own.cmake hO f1 f2 f3 e; (try clear hO e); intro hO))
set_option hygiene false in
local macro_rules | `(tactic| walk_at "own") => `(tactic| (first | ((apply Own.sub hO); (focus walk_at "sb"); (focus walk_at "ps")) | ((apply Own.sub hF); (focus walk_at "sb"); (focus walk_at "ps")) | fail))
set_option hygiene false in
local macro_rules | `(tactic| walk_at "fin") => `(tactic| (refine Own.sub hO ?_ (by walk_at "ps"); walk_at "sbL"))
set_option hygiene false in
local macro_rules | `(tactic| walk_at "g1") => `(tactic| (first
 | ((with_reducible show (_ : Option HO) = _); walk_at "at")
 | ((with_reducible show (_ : Int) < _); omega) | ((with_reducible show (_ : Int) ≤ _); omega)
 | ((with_reducible show (_ : Nat) < _); (first | assumption | exact Nat.le_of_ble_eq_true rfl | exact size_lt (Nat.le_of_ble_eq_true rfl) | omega | (simp; done) | (simp; omega) | fail))
 | ((with_reducible show (_ : Nat) ≤ _); (first | assumption | exact Nat.le_of_ble_eq_true rfl | exact size_le (Nat.le_of_ble_eq_true rfl) | omega | (simp; done) | (simp; omega) | fail))
 | ((with_reducible show Own _ _ _ _); (first | walk_at "own" | (walk_at "st"; walk_at "own") | fail))
 | ((with_reducible show SqL _ _ _ _); (first | assumption | exact SqL.of (by walk_at "at") | fail))
 | ((with_reducible show SqT _ _ _ _); (first | assumption | exact hO.psq (by walk_at "mem") | exact SqT.of (by walk_at "at") | fail))
  | ((with_reducible show Cls _ _); exact Txt.cl_Renamer T) | ((with_reducible show NoAttr _ _ _); exact Txt.n_Renamer_new_map T) | (with_reducible exact gt_Renamer_new_map) | ((with_reducible show NoAttr _ _ _); exact Txt.n_Renamer_old_map T) | (with_reducible exact gt_Renamer_old_map) | ((with_reducible show NoAttr _ _ _); exact Txt.n_Renamer_free T) | (with_reducible exact gt_Renamer_free) | ((with_reducible show NoAttr _ _ _); exact Txt.n_Renamer_lendings T) | (with_reducible exact gt_Renamer_lendings) | ((with_reducible show NoAttr _ _ _); exact Txt.n_Renamer_cells T) | (with_reducible exact gt_Renamer_cells)
 | ((with_reducible show SqL _ _ _ _ ∨ SqT _ _ _ _); (first | exact Or.inl (SqL.of (by walk_at "at")) | exact Or.inr (SqT.of (by walk_at "at")) | fail))
 | ((with_reducible show Dp _ _ _ _); (first | assumption | exact hO.dpL (by walk_at "mem") | exact .lst (SqL.of (by walk_at "at")) (hO.all (by walk_at "dv")) | exact hO.one (by walk_at "dv") | fail))
 | ((with_reducible show TruV _ _ _ _); (first | exact Or.inl ⟨_, SqL.of (by walk_at "at"), rfl⟩ | exact Or.inr (Or.inr ⟨_, by walk_at "at", rfl⟩) | exact Or.inr (Or.inl ⟨_, SqT.of (by walk_at "at"), rfl⟩) | fail))
 | ((with_reducible show RgOk _ _); exact RgOk.of_le (by omega) (by omega) (by omega) (by omega))
 | rfl | (with_reducible assumption) | apply And.intro | apply Exists.intro | refine iteT ?_ | refine iteF ?_
 | (walk_at "st"; (try walk_at "fl"))
 | ((with_reducible show ∀ _ : Addr, _ = none → _); (fail_if_success (with_reducible show ∀ _ : Addr, _ = none → ∃ _ : Nat → Nat → Hp → Prop, _)); intro p fp; walk_at "st")
 | (refine Or.inl ⟨SqL.of (by walk_at "at"), ?_⟩) | (refine Or.inr ⟨SqT.of (by walk_at "at"), ?_⟩) | exact Or.inl ⟨_, by walk_at "at", rfl⟩ | exact Or.inl ⟨rfl, _, SqL.of (by walk_at "at")⟩ | exact tyl_of (by walk_at "at") | exact Or.inl (SqL.of (by walk_at "at")) | exact Or.inr (SqT.of (by walk_at "at")) | exact Or.inl (by walk_at "at") | exact size_le (Nat.le_of_ble_eq_true rfl) | exact Nat.le_of_ble_eq_true rfl | exact True.intro | exact Or.inl rfl | exact Or.inr rfl | (show (_ : Prop); assumption) | (show (_ : Prop); omega) | (show (_ : Prop); dsimp only; omega) | exact mulw64 (by omega) (by omega) | exact mulw64 (by (try dsimp only); omega) (by (try dsimp only); omega) | fail))
local macro_rules | `(tactic| walk_at "go") => `(tactic| repeat walk_at "g1")

section
variable {P : Program} {w : World} {K : PySem.W.Frag} {mg : Str → Option Value} {base : Heap}
def sp_lendings (K : PySem.W.Frag) (C : Addr) : Sp := fun vs H Q _ => ∃ (x dx n o f l c : Addr) (S : RS)  (R : List (Addr × Ob)) (P : List Pf), vs = [.ref x] ∧ Own K H (rn C x dx n o f l c S ++ R) P ∧ ∀ (t : Addr) (H' : Hp), Own K H' ((t, .L (S.ld.map lnD)) :: (rn C x dx n o f l c S ++ R)) P → Q (.ref t) H'
theorem ok_Renamer_lendings (T : Txt K mg) : FnOk P w K mg base CX0 1 T.f_Renamer_lendings T.fd_Renamer_lendings ["self"] (sp_lendings K T.C_Renamer) := by
  refine T.F_Renamer_lendings.ok sc_Renamer_lendings (fun vs H Q E h => ?_) (fun cdv A outer s H vs Q E hr h => ?_)
  · obtain ⟨x, dx, n, o, f, l, c, S, R, P, rfl, hO, k⟩ := h; rfl
  · obtain ⟨x, dx, n, o, f, l, c, S, R, P, rfl, hO, k⟩ := h
    refine ⟨_, (pss_one (ps_ret (pe_callTy call_list_of (by rfl) T.m_list (by decide +kernel) (pa_cons (pe_fld (pv 0) rfl) pa_nil)))), ?_⟩
    clear hr
    have hF := hO
    simp only [rn, List.cons_append, List.nil_append] at hO k
    obtain ⟨lv, o1⟩ := hO.openL (a := l) (by walk_at "mem")
    replace hO := o1 _ (by walk_at "setat")
    have hll := (hO.pdp (vs := lv) (by walk_at "mem")).len
    rw [List.length_map] at hll
    clear o1
    walk_at "go"
    apply k
    walk_at "fin"
def sp_free (K : PySem.W.Frag) (C : Addr) : Sp := fun vs H Q _ => ∃ (x dx n o f l c : Addr) (S : RS)  (R : List (Addr × Ob)) (P : List Pf), vs = [.ref x] ∧ Own K H (rn C x dx n o f l c S ++ R) P ∧ ∀ (t : Addr) (H' : Hp), Own K H' ((t, .raw (.lst (S.fr.map V.int))) :: (rn C x dx n o f l c S ++ R)) P → Q (.ref t) H'
theorem ok_Renamer_free (T : Txt K mg) : FnOk P w K mg base CX0 1 T.f_Renamer_free T.fd_Renamer_free ["self"] (sp_free K T.C_Renamer) := by
  refine T.F_Renamer_free.ok sc_Renamer_free (fun vs H Q E h => ?_) (fun cdv A outer s H vs Q E hr h => ?_)
  · obtain ⟨x, dx, n, o, f, l, c, S, R, P, rfl, hO, k⟩ := h; rfl
  · obtain ⟨x, dx, n, o, f, l, c, S, R, P, rfl, hO, k⟩ := h
    refine ⟨_, (pss_one (ps_ret (pe_callTy call_list_of (by rfl) T.m_list (by decide +kernel) (pa_cons (pe_fld (pv 0) rfl) pa_nil)))), ?_⟩
    clear hr
    have hF := hO
    simp only [rn, List.cons_append, List.nil_append] at hO k
    walk_at "go"
    apply k
    walk_at "fin"
end
end K67

set_option Elab.async false
set_option linter.all false
set_option maxRecDepth 100000
set_option maxHeartbeats 8000000

namespace K67
open PySem PySem.Spec PyProof.Rows L2 Hx 
local macro_rules | `(tactic| walk_at "sm") => `(tactic| repeat' (first | assumption | apply Hx.Same.upd | exact L2.Same.refl _ | apply same_trans'))
local macro_rules | `(tactic| walk_at "hp") => `(tactic| repeat' (first | assumption | exact upd_same | apply old_upd | apply same_at))
local macro_rules | `(tactic| walk_at "rd") => `(tactic| repeat' (first | rfl | apply Exists.intro | apply And.intro | refine iteT ?_ | refine iteF ?_ | exact upd_same | exact SqL.of (by assumption) | exact SqL.of upd_same | exact SqT.of upd_same | exact SqT.of (by assumption) | ((with_reducible show (_ : Int) < _); omega) | ((with_reducible show (_ : Int) ≤ _); omega) | (show (_ : Prop); assumption) | exact Or.inl ⟨_, by assumption, rfl⟩ | exact Or.inl ⟨rfl, _, SqL.of (by assumption)⟩ | exact Or.inl ⟨rfl, _, SqL.of upd_same⟩ | apply old_upd | apply Hx.SqL.new | apply tyl_new | apply Pot.new | exact same_at (by assumption) (by assumption) | exact Or.inl (SqL.of (by assumption)) | exact Or.inl (by assumption) | exact Or.inl (SqL.of upd_same) | exact size_le (Nat.le_of_ble_eq_true rfl) | exact Nat.le_of_ble_eq_true rfl | exact True.intro | exact Or.inl rfl | exact Or.inr rfl | (show (_ : Prop); omega) | (show (_ : Prop); dsimp only; omega) | exact mulw64 (by omega) (by omega) | exact mulw64 (by (try dsimp only); omega) (by (try dsimp only); omega)))
set_option hygiene false in
local macro_rules | `(tactic| walk_at "fl") => `(tactic| simp only [pu_Renamer_new_map, pi_Renamer_new_map, pu_Renamer_old_map, pi_Renamer_old_map, pu_Renamer_free, pi_Renamer_free, pu_Renamer_lendings, pi_Renamer_lendings, pu_Renamer_cells, pi_Renamer_cells] at hO)
local macro_rules | `(tactic| walk_at "mem") => `(tactic| ((repeat (first | exact List.Mem.head _ | apply List.Mem.tail | fail)); done))
local macro_rules | `(tactic| walk_at "setat") => `(tactic| ((repeat (first | (with_reducible exact At.head) | (with_reducible apply At.tail) | (with_reducible apply At.app) | fail)); done))
set_option hygiene false in
local macro_rules | `(tactic| walk_at "dv") => `(tactic| ((repeat' (first | exact Dv.nil | exact Dv.of (by walk_at "mem") | exact Dv.ints _ | exact Dv1.of (by walk_at "mem") | exact Dv1.int _ | exact Dv1.non | exact Dv1.bl _ | exact Dv1.str _ | (with_reducible apply Dv.cons) | refine Dv1.tup (by walk_at "mem") ?_ | refine Dv1.lst (by walk_at "mem") ?_ | (with_reducible apply Dv.app) | fail)); done))
local macro_rules | `(tactic| walk_at "ft") => `(tactic| (first | (with_reducible exact Ft.refl) | ((with_reducible apply Ft.toL); focus walk_at "dv") | ((with_reducible apply Ft.toS); focus assumption) | (with_reducible apply Ft.lst) | (with_reducible apply Ft.Le) | (with_reducible apply Ft.dK) | (with_reducible apply Ft.De) | (with_reducible apply Ft.ins) | (with_reducible apply Ft.toL) | (with_reducible apply Ft.toS) | (with_reducible apply Ft.toD) | fail))
local macro_rules | `(tactic| walk_at "sbL") => `(tactic| repeat' (first | (with_reducible exact Sb.refl _) | exact Sb.nil | (with_reducible apply Sb.cons) | (with_reducible apply Sb.app) | (with_reducible exact Pk.one) | (with_reducible exact Pk.here) | (with_reducible exact Pk.all) | (with_reducible apply Pk.skip1) | (with_reducible apply Pk.skipB) | (with_reducible apply Sb.skip) | (with_reducible apply Sb.skipB) | ((with_reducible show Ft _ _ _ _); walk_at "ft") | ((with_reducible show (_ : List _) = _); (first | rfl | (simp [List.map_set, List.map_append]; done) | fail)) | fail))
local macro_rules | `(tactic| walk_at "sb") => `(tactic| ((walk_at "sbL"); done))
local macro_rules | `(tactic| walk_at "ps") => `(tactic| ((repeat' (first | (with_reducible exact Ps.refl) | exact Ps.nil | (with_reducible apply Ps.cons) | exact List.Mem.head _ | apply List.Mem.tail | (with_reducible apply Ps.skip) | fail)); done))
set_option hygiene false in
local macro_rules | `(tactic| walk_at "at") => `(tactic| first | assumption | exact Own.raw hO (by walk_at "mem") | exact Own.ptup hO (by walk_at "mem") | exact Own.plst hO (by walk_at "mem") | fail)
set_option hygiene false in
local macro_rules | `(tactic| walk_at "st") => `(tactic| (rw [upd_mkO hO]; generalize e : updX _ _ _ = H1; (first | ((apply Own.cset hO e); (focus walk_at "setat"); (try clear hO e); intro hO) | ((apply Own.cnewT hO e); (focus assumption); (try clear hO e); intro hO) | ((apply Own.cnew hO e); (focus assumption); (try clear hO e); intro hO) | fail)))
set_option hygiene false in
local macro_rules | `(tactic| walk_at "mk") => `(tactic| (intro p1 p2 f1 f2 f3; rw [upd_mkO hO]; generalize e : upd (updX _ _ _) _ _ = H1; apply Own.cmake hO f1 f2 f3 e; (try clear hO e); intro hO))
set_option hygiene false in
local macro_rules | `(tactic| walk_at "own") => `(tactic| (first | ((apply Own.sub hO); (focus walk_at "sb"); (focus walk_at "ps")) | ((apply Own.sub hF); (focus walk_at "sb"); (focus walk_at "ps")) | fail))
set_option hygiene false in
local macro_rules | `(tactic| walk_at "fin") => `(tactic| (refine Own.sub hO ?_ (by walk_at "ps"); walk_at "sbL"))
set_option hygiene false in
local macro_rules | `(tactic| walk_at "g1") => `(tactic| (first
 | ((with_reducible show (_ : Option HO) = _); walk_at "at")
 | ((with_reducible show (_ : Int) < _); omega) | ((with_reducible show (_ : Int) ≤ _); omega)
 | ((with_reducible show (_ : Nat) < _); (first | assumption | exact Nat.le_of_ble_eq_true rfl | exact size_lt (Nat.le_of_ble_eq_true rfl) | omega | (simp; done) | (simp; omega) | fail))
 | ((with_reducible show (_ : Nat) ≤ _); (first | assumption | exact Nat.le_of_ble_eq_true rfl | exact size_le (Nat.le_of_ble_eq_true rfl) | omega | (simp; done) | (simp; omega) | fail))
 | ((with_reducible show Own _ _ _ _); (first | walk_at "own" | (walk_at "st"; walk_at "own") | fail))
 | ((with_reducible show SqL _ _ _ _); (first | assumption | exact SqL.of (by walk_at "at") | fail))
 | ((with_reducible show SqT _ _ _ _); (first | assumption | exact hO.psq (by walk_at "mem") | exact SqT.of (by walk_at "at") | fail))
  | ((with_reducible show Cls _ _); exact Txt.cl_Renamer T) | ((with_reducible show NoAttr _ _ _); exact Txt.n_Renamer_new_map T) | (with_reducible exact gt_Renamer_new_map) | ((with_reducible show NoAttr _ _ _); exact Txt.n_Renamer_old_map T) | (with_reducible exact gt_Renamer_old_map) | ((with_reducible show NoAttr _ _ _); exact Txt.n_Renamer_free T) | (with_reducible exact gt_Renamer_free) | ((with_reducible show NoAttr _ _ _); exact Txt.n_Renamer_lendings T) | (with_reducible exact gt_Renamer_lendings) | ((with_reducible show NoAttr _ _ _); exact Txt.n_Renamer_cells T) | (with_reducible exact gt_Renamer_cells)
 | ((with_reducible show SqL _ _ _ _ ∨ SqT _ _ _ _); (first | exact Or.inl (SqL.of (by walk_at "at")) | exact Or.inr (SqT.of (by walk_at "at")) | fail))
 | ((with_reducible show Dp _ _ _ _); (first | assumption | exact hO.dpL (by walk_at "mem") | exact .lst (SqL.of (by walk_at "at")) (hO.all (by walk_at "dv")) | exact hO.one (by walk_at "dv") | fail))
 | ((with_reducible show TruV _ _ _ _); (first | exact Or.inl ⟨_, SqL.of (by walk_at "at"), rfl⟩ | exact Or.inr (Or.inr ⟨_, by walk_at "at", rfl⟩) | exact Or.inr (Or.inl ⟨_, SqT.of (by walk_at "at"), rfl⟩) | fail))
 | ((with_reducible show RgOk _ _); exact RgOk.of_le (by omega) (by omega) (by omega) (by omega))
 | rfl | (with_reducible assumption) | apply And.intro | apply Exists.intro | refine iteT ?_ | refine iteF ?_
 | (walk_at "st"; (try walk_at "fl"))
 | ((with_reducible show ∀ _ : Addr, _ = none → _); (fail_if_success (with_reducible show ∀ _ : Addr, _ = none → ∃ _ : Nat → Nat → Hp → Prop, _)); intro p fp; walk_at "st")
 | (refine Or.inl ⟨SqL.of (by walk_at "at"), ?_⟩) | (refine Or.inr ⟨SqT.of (by walk_at "at"), ?_⟩) | exact Or.inl ⟨_, by walk_at "at", rfl⟩ | exact Or.inl ⟨rfl, _, SqL.of (by walk_at "at")⟩ | exact tyl_of (by walk_at "at") | exact Or.inl (SqL.of (by walk_at "at")) | exact Or.inr (SqT.of (by walk_at "at")) | exact Or.inl (by walk_at "at") | exact size_le (Nat.le_of_ble_eq_true rfl) | exact Nat.le_of_ble_eq_true rfl | exact True.intro | exact Or.inl rfl | exact Or.inr rfl | (show (_ : Prop); assumption) | (show (_ : Prop); omega) | (show (_ : Prop); dsimp only; omega) | exact mulw64 (by omega) (by omega) | exact mulw64 (by (try dsimp only); omega) (by (try dsimp only); omega) | fail))
local macro_rules | `(tactic| walk_at "go") => `(tactic| repeat walk_at "g1")

section
variable {P : Program} {w : World} {K : PySem.W.Frag} {mg : Str → Option Value} {base : Heap}
def sp_told (K : PySem.W.Frag) (C : Addr) : Sp := fun vs H Q _ => ∃ (x dx n o f l c : Addr) (S : RS)  (R : List (Addr × Ob)) (P : List Pf), vs = [.ref x] ∧ Own K H (rn C x dx n o f l c S ++ R) P ∧ ∀ (t : Addr) (H' : Hp) (P' : List Pf), Ps P P' → Own K H' (rn C x dx n o f l c S ++ R) (.dp [.ref t] [tdD S] :: P') → Q (.ref t) H'
theorem ok_Renamer_told (T : Txt K mg) : FnOk P w K mg base CX0 1 T.f_Renamer_told T.fd_Renamer_told ["self"] (sp_told K T.C_Renamer) := by
  refine T.F_Renamer_told.ok sc_Renamer_told (fun vs H Q E h => ?_) (fun cdv A outer s H vs Q E hr h => ?_)
  · obtain ⟨x, dx, n, o, f, l, c, S, R, P, rfl, hO, k⟩ := h; rfl
  · obtain ⟨x, dx, n, o, f, l, c, S, R, P, rfl, hO, k⟩ := h
    refine ⟨_, (pss_one (ps_ret (pe_tup (pa_cons (pe_callTy call_tuple_of (by rfl) T.m_tuple (by decide +kernel) (pa_cons (pe_fld (pv 0) rfl) pa_nil)) (pa_cons (pe_callTy call_tuple_of (by rfl) T.m_tuple (by decide +kernel) (pa_cons (pe_fld (pv 0) rfl) pa_nil)) (pa_cons (pe_callTy call_tuple_of (by rfl) T.m_tuple (by decide +kernel) (pa_cons (pe_fld (pv 0) rfl) pa_nil)) (pa_cons (pe_callTy call_tuple_of (by rfl) T.m_tuple (by decide +kernel) (pa_cons (pe_fld (pv 0) rfl) pa_nil)) (pa_cons (pe_callTy call_tuple_of (by rfl) T.m_tuple (by decide +kernel) (pa_cons (pe_fld (pv 0) rfl) pa_nil)) pa_nil)))))))), ?_⟩
    clear hr
    have hF := hO
    simp only [rn, List.cons_append, List.nil_append] at hO k
    obtain ⟨lv, o1⟩ := hO.openL (a := l) (by walk_at "mem")
    replace hO := o1 _ (by walk_at "setat")
    have hll := (hO.pdp (vs := lv) (by walk_at "mem")).len
    rw [List.length_map] at hll
    clear o1
    walk_at "go"
    refine k _ _ _ ?_ ((hO.dv1 (d := tdD S) ?_).sub ?_ Ps.refl)
    · walk_at "ps"
    · refine Dv1.tup (by walk_at "mem") (.cons (Dv1.tup (by walk_at "mem") (Dv.ints _)) (.cons (Dv1.tup (by walk_at "mem") (Dv.ints _)) (.cons (Dv1.tup (by walk_at "mem") (Dv.ints _)) (.cons (Dv1.tup (by walk_at "mem") (Dv.of (by walk_at "mem"))) (.cons (Dv1.tup (by walk_at "mem") (Dv.os _)) .nil)))))
    · walk_at "sbL"
end
end K67

set_option Elab.async false
set_option linter.all false
set_option maxRecDepth 100000
set_option maxHeartbeats 8000000

namespace K67
open PySem PySem.Spec PyProof.Rows L2 Hx 
local macro_rules | `(tactic| walk_at "sm") => `(tactic| repeat' (first | assumption | apply Hx.Same.upd | exact L2.Same.refl _ | apply same_trans'))
local macro_rules | `(tactic| walk_at "hp") => `(tactic| repeat' (first | assumption | exact upd_same | apply old_upd | apply same_at))
local macro_rules | `(tactic| walk_at "rd") => `(tactic| repeat' (first | rfl | apply Exists.intro | apply And.intro | refine iteT ?_ | refine iteF ?_ | exact upd_same | exact SqL.of (by assumption) | exact SqL.of upd_same | exact SqT.of upd_same | exact SqT.of (by assumption) | ((with_reducible show (_ : Int) < _); omega) | ((with_reducible show (_ : Int) ≤ _); omega) | (show (_ : Prop); assumption) | exact Or.inl ⟨_, by assumption, rfl⟩ | exact Or.inl ⟨rfl, _, SqL.of (by assumption)⟩ | exact Or.inl ⟨rfl, _, SqL.of upd_same⟩ | apply old_upd | apply Hx.SqL.new | apply tyl_new | apply Pot.new | exact same_at (by assumption) (by assumption) | exact Or.inl (SqL.of (by assumption)) | exact Or.inl (by assumption) | exact Or.inl (SqL.of upd_same) | exact size_le (Nat.le_of_ble_eq_true rfl) | exact Nat.le_of_ble_eq_true rfl | exact True.intro | exact Or.inl rfl | exact Or.inr rfl | (show (_ : Prop); omega) | (show (_ : Prop); dsimp only; omega) | exact mulw64 (by omega) (by omega) | exact mulw64 (by (try dsimp only); omega) (by (try dsimp only); omega)))
set_option hygiene false in
local macro_rules | `(tactic| walk_at "fl") => `(tactic| simp only [pu_Renamer_new_map, pi_Renamer_new_map, pu_Renamer_old_map, pi_Renamer_old_map, pu_Renamer_free, pi_Renamer_free, pu_Renamer_lendings, pi_Renamer_lendings, pu_Renamer_cells, pi_Renamer_cells] at hO)
local macro_rules | `(tactic| walk_at "mem") => `(tactic| ((repeat (first | exact List.Mem.head _ | apply List.Mem.tail | fail)); done))
local macro_rules | `(tactic| walk_at "setat") => `(tactic| ((repeat (first | (with_reducible exact At.head) | (with_reducible apply At.tail) | (with_reducible apply At.app) | fail)); done))
set_option hygiene false in
local macro_rules | `(tactic| walk_at "dv") => `(tactic| ((repeat' (first | exact Dv.nil | exact Dv.of (by walk_at "mem") | exact Dv.ints _ | exact Dv1.of (by walk_at "mem") | exact Dv1.int _ | exact Dv1.non | exact Dv1.bl _ | exact Dv1.str _ | (with_reducible apply Dv.cons) | refine Dv1.tup (by walk_at "mem") ?_ | refine Dv1.lst (by walk_at "mem") ?_ | (with_reducible apply Dv.app) | fail)); done))
local macro_rules | `(tactic| walk_at "ft") => `(tactic| (first | (with_reducible exact Ft.refl) | ((with_reducible apply Ft.toL); focus walk_at "dv") | ((with_reducible apply Ft.toS); focus assumption) | (with_reducible apply Ft.lst) | (with_reducible apply Ft.Le) | (with_reducible apply Ft.dK) | (with_reducible apply Ft.De) | (with_reducible apply Ft.ins) | (with_reducible apply Ft.toL) | (with_reducible apply Ft.toS) | (with_reducible apply Ft.toD) | fail))
local macro_rules | `(tactic| walk_at "sbL") => `(tactic| repeat' (first | (with_reducible exact Sb.refl _) | exact Sb.nil | (with_reducible apply Sb.cons) | (with_reducible apply Sb.app) | (with_reducible exact Pk.one) | (with_reducible exact Pk.here) | (with_reducible exact Pk.all) | (with_reducible apply Pk.skip1) | (with_reducible apply Pk.skipB) | (with_reducible apply Sb.skip) | (with_reducible apply Sb.skipB) | ((with_reducible show Ft _ _ _ _); walk_at "ft") | ((with_reducible show (_ : List _) = _); (first | rfl | (simp [List.map_set, List.map_append]; done) | fail)) | fail))
local macro_rules | `(tactic| walk_at "sb") => `(tactic| ((walk_at "sbL"); done))
local macro_rules | `(tactic| walk_at "ps") => `(tactic| ((repeat' (first | (with_reducible exact Ps.refl) | exact Ps.nil | (with_reducible apply Ps.cons) | exact List.Mem.head _ | apply List.Mem.tail | (with_reducible apply Ps.skip) | fail)); done))
set_option hygiene false in
local macro_rules | `(tactic| walk_at "at") => `(tactic| first | assumption | exact Own.raw hO (by walk_at "mem") | exact Own.ptup hO (by walk_at "mem") | exact Own.plst hO (by walk_at "mem") | fail)
set_option hygiene false in
local macro_rules | `(tactic| walk_at "st") => `(tactic| (rw [upd_mkO hO]; generalize e : updX _ _ _ = H1; (first | ((apply Own.cset hO e); (focus walk_at "setat"); (try clear hO e); intro hO) | ((apply Own.cnewT hO e); (focus assumption); (try clear hO e); intro hO) | ((apply Own.cnew hO e); (focus assumption); (try clear hO e); intro hO) | fail)))
set_option hygiene false in
local macro_rules | `(tactic| walk_at "mk") => `(tactic| (intro p1 p2 f1 f2 f3; rw [upd_mkO hO]; generalize e : upd (updX _ _ _) _ _ = H1; apply Own.cmake hO f1 f2 f3 e; (try clear hO e); intro hO))
set_option hygiene false in
local macro_rules | `(tactic| walk_at "own") => `(tactic| (first | ((apply Own.sub hO); (focus walk_at "sb"); (focus walk_at "ps")) | ((apply Own.sub hF); (focus walk_at "sb"); (focus walk_at "ps")) | fail))
set_option hygiene false in
local macro_rules | `(tactic| walk_at "fin") => `(tactic| (refine Own.sub hO ?_ (by walk_at "ps"); walk_at "sbL"))
set_option hygiene false in
local macro_rules | `(tactic| walk_at "g1") => `(tactic| (first
 | ((with_reducible show (_ : Option HO) = _); walk_at "at")
 | ((with_reducible show (_ : Int) < _); omega) | ((with_reducible show (_ : Int) ≤ _); omega)
 | ((with_reducible show (_ : Nat) < _); (first | assumption | exact Nat.le_of_ble_eq_true rfl | exact size_lt (Nat.le_of_ble_eq_true rfl) | omega | (simp; done) | (simp; omega) | fail))
 | ((with_reducible show (_ : Nat) ≤ _); (first | assumption | exact Nat.le_of_ble_eq_true rfl | exact size_le (Nat.le_of_ble_eq_true rfl) | omega | (simp; done) | (simp; omega) | fail))
 | ((with_reducible show Own _ _ _ _); (first | walk_at "own" | (walk_at "st"; walk_at "own") | fail))
 | ((with_reducible show SqL _ _ _ _); (first | assumption | exact SqL.of (by walk_at "at") | fail))
 | ((with_reducible show SqT _ _ _ _); (first | assumption | exact hO.psq (by walk_at "mem") | exact SqT.of (by walk_at "at") | fail))
  | ((with_reducible show Cls _ _); exact Txt.cl_Renamer T) | ((with_reducible show NoAttr _ _ _); exact Txt.n_Renamer_new_map T) | (with_reducible exact gt_Renamer_new_map) | ((with_reducible show NoAttr _ _ _); exact Txt.n_Renamer_old_map T) | (with_reducible exact gt_Renamer_old_map) | ((with_reducible show NoAttr _ _ _); exact Txt.n_Renamer_free T) | (with_reducible exact gt_Renamer_free) | ((with_reducible show NoAttr _ _ _); exact Txt.n_Renamer_lendings T) | (with_reducible exact gt_Renamer_lendings) | ((with_reducible show NoAttr _ _ _); exact Txt.n_Renamer_cells T) | (with_reducible exact gt_Renamer_cells)
 | ((with_reducible show SqL _ _ _ _ ∨ SqT _ _ _ _); (first | exact Or.inl (SqL.of (by walk_at "at")) | exact Or.inr (SqT.of (by walk_at "at")) | fail))
 | ((with_reducible show Dp _ _ _ _); (first | assumption | exact hO.dpL (by walk_at "mem") | exact .lst (SqL.of (by walk_at "at")) (hO.all (by walk_at "dv")) | exact hO.one (by walk_at "dv") | fail))
 | ((with_reducible show TruV _ _ _ _); (first | exact Or.inl ⟨_, SqL.of (by walk_at "at"), rfl⟩ | exact Or.inr (Or.inr ⟨_, by walk_at "at", rfl⟩) | exact Or.inr (Or.inl ⟨_, SqT.of (by walk_at "at"), rfl⟩) | fail))
 | ((with_reducible show RgOk _ _); exact RgOk.of_le (by omega) (by omega) (by omega) (by omega))
 | rfl | (with_reducible assumption) | apply And.intro | apply Exists.intro | refine iteT ?_ | refine iteF ?_
 | (walk_at "st"; (try walk_at "fl"))
 | ((with_reducible show ∀ _ : Addr, _ = none → _); (fail_if_success (with_reducible show ∀ _ : Addr, _ = none → ∃ _ : Nat → Nat → Hp → Prop, _)); intro p fp; walk_at "st")
 | (refine Or.inl ⟨SqL.of (by walk_at "at"), ?_⟩) | (refine Or.inr ⟨SqT.of (by walk_at "at"), ?_⟩) | exact Or.inl ⟨_, by walk_at "at", rfl⟩ | exact Or.inl ⟨rfl, _, SqL.of (by walk_at "at")⟩ | exact tyl_of (by walk_at "at") | exact Or.inl (SqL.of (by walk_at "at")) | exact Or.inr (SqT.of (by walk_at "at")) | exact Or.inl (by walk_at "at") | exact size_le (Nat.le_of_ble_eq_true rfl) | exact Nat.le_of_ble_eq_true rfl | exact True.intro | exact Or.inl rfl | exact Or.inr rfl | (show (_ : Prop); assumption) | (show (_ : Prop); omega) | (show (_ : Prop); dsimp only; omega) | exact mulw64 (by omega) (by omega) | exact mulw64 (by (try dsimp only); omega) (by (try dsimp only); omega) | fail))
local macro_rules | `(tactic| walk_at "go") => `(tactic| repeat walk_at "g1")

section
variable {P : Program} {w : World} {K : PySem.W.Frag} {mg : Str → Option Value} {base : Heap}
end
end K67

set_option Elab.async false
set_option linter.all false
set_option maxRecDepth 100000
set_option maxHeartbeats 8000000

namespace K67
open PySem PySem.Spec PyProof.Rows L2 Hx 
local macro_rules | `(tactic| walk_at "sm") => `(tactic| repeat' (first | assumption | apply Hx.Same.upd | exact L2.Same.refl _ | apply same_trans'))
local macro_rules | `(tactic| walk_at "hp") => `(tactic| repeat' (first | assumption | exact upd_same | apply old_upd | apply same_at))
local macro_rules | `(tactic| walk_at "rd") => `(tactic| repeat' (first | rfl | apply Exists.intro | apply And.intro | refine iteT ?_ | refine iteF ?_ | exact upd_same | exact SqL.of (by assumption) | exact SqL.of upd_same | exact SqT.of upd_same | exact SqT.of (by assumption) | ((with_reducible show (_ : Int) < _); omega) | ((with_reducible show (_ : Int) ≤ _); omega) | (show (_ : Prop); assumption) | exact Or.inl ⟨_, by assumption, rfl⟩ | exact Or.inl ⟨rfl, _, SqL.of (by assumption)⟩ | exact Or.inl ⟨rfl, _, SqL.of upd_same⟩ | apply old_upd | apply Hx.SqL.new | apply tyl_new | apply Pot.new | exact same_at (by assumption) (by assumption) | exact Or.inl (SqL.of (by assumption)) | exact Or.inl (by assumption) | exact Or.inl (SqL.of upd_same) | exact size_le (Nat.le_of_ble_eq_true rfl) | exact Nat.le_of_ble_eq_true rfl | exact True.intro | exact Or.inl rfl | exact Or.inr rfl | (show (_ : Prop); omega) | (show (_ : Prop); dsimp only; omega) | exact mulw64 (by omega) (by omega) | exact mulw64 (by (try dsimp only); omega) (by (try dsimp only); omega)))
set_option hygiene false in
local macro_rules | `(tactic| walk_at "fl") => `(tactic| simp only [pu_Renamer_new_map, pi_Renamer_new_map, pu_Renamer_old_map, pi_Renamer_old_map, pu_Renamer_free, pi_Renamer_free, pu_Renamer_lendings, pi_Renamer_lendings, pu_Renamer_cells, pi_Renamer_cells] at hO)
local macro_rules | `(tactic| walk_at "mem") => `(tactic| ((repeat (first | exact List.Mem.head _ | apply List.Mem.tail | fail)); done))
local macro_rules | `(tactic| walk_at "setat") => `(tactic| ((repeat (first | (with_reducible exact At.head) | (with_reducible apply At.tail) | (with_reducible apply At.app) | fail)); done))
set_option hygiene false in
local macro_rules | `(tactic| walk_at "dv") => `(tactic| ((repeat' (first | exact Dv.nil | exact Dv.of (by walk_at "mem") | exact Dv.ints _ | exact Dv1.of (by walk_at "mem") | exact Dv1.int _ | exact Dv1.non | exact Dv1.bl _ | exact Dv1.str _ | (with_reducible apply Dv.cons) | refine Dv1.tup (by walk_at "mem") ?_ | refine Dv1.lst (by walk_at "mem") ?_ | (with_reducible apply Dv.app) | fail)); done))
local macro_rules | `(tactic| walk_at "ft") => `(tactic| (first | (with_reducible exact Ft.refl) | ((with_reducible apply Ft.toL); focus walk_at "dv") | ((with_reducible apply Ft.toS); focus assumption) | (with_reducible apply Ft.lst) | (with_reducible apply Ft.Le) | (with_reducible apply Ft.dK) | (with_reducible apply Ft.De) | (with_reducible apply Ft.ins) | (with_reducible apply Ft.toL) | (with_reducible apply Ft.toS) | (with_reducible apply Ft.toD) | fail))
local macro_rules | `(tactic| walk_at "sbL") => `(tactic| repeat' (first | (with_reducible exact Sb.refl _) | exact Sb.nil | (with_reducible apply Sb.cons) | (with_reducible apply Sb.app) | (with_reducible exact Pk.one) | (with_reducible exact Pk.here) | (with_reducible exact Pk.all) | (with_reducible apply Pk.skip1) | (with_reducible apply Pk.skipB) | (with_reducible apply Sb.skip) | (with_reducible apply Sb.skipB) | ((with_reducible show Ft _ _ _ _); walk_at "ft") | ((with_reducible show (_ : List _) = _); (first | rfl | (simp [List.map_set, List.map_append]; done) | fail)) | fail))
local macro_rules | `(tactic| walk_at "sb") => `(tactic| ((walk_at "sbL"); done))
local macro_rules | `(tactic| walk_at "ps") => `(tactic| ((repeat' (first | (with_reducible exact Ps.refl) | exact Ps.nil | (with_reducible apply Ps.cons) | exact List.Mem.head _ | apply List.Mem.tail | (with_reducible apply Ps.skip) | fail)); done))
set_option hygiene false in
local macro_rules | `(tactic| walk_at "at") => `(tactic| first | assumption | exact Own.raw hO (by walk_at "mem") | exact Own.ptup hO (by walk_at "mem") | exact Own.plst hO (by walk_at "mem") | fail)
set_option hygiene false in
local macro_rules | `(tactic| walk_at "st") => `(tactic| (rw [upd_mkO hO]; generalize e : updX _ _ _ = H1; (first | ((apply Own.cset hO e); (focus walk_at "setat"); (try clear hO e); intro hO) | ((apply Own.cnewT hO e); (focus assumption); (try clear hO e); intro hO) | ((apply Own.cnew hO e); (focus assumption); (try clear hO e); intro hO) | fail)))
set_option hygiene false in
local macro_rules | `(tactic| walk_at "mk") => `(tactic| (intro p1 p2 f1 f2 f3; rw [upd_mkO hO]; generalize e : upd (updX _ _ _) _ _ = H1; apply Own.cmake hO f1 f2 f3 e; (try clear hO e); intro hO))
set_option hygiene false in
local macro_rules | `(tactic| walk_at "own") => `(tactic| (first | ((apply Own.sub hO); (focus walk_at "sb"); (focus walk_at "ps")) | ((apply Own.sub hF); (focus walk_at "sb"); (focus walk_at "ps")) | fail))
set_option hygiene false in
local macro_rules | `(tactic| walk_at "fin") => `(tactic| (refine Own.sub hO ?_ (by walk_at "ps"); walk_at "sbL"))
set_option hygiene false in
local macro_rules | `(tactic| walk_at "g1") => `(tactic| (first
 | ((with_reducible show (_ : Option HO) = _); walk_at "at")
 | ((with_reducible show (_ : Int) < _); omega) | ((with_reducible show (_ : Int) ≤ _); omega)
 | ((with_reducible show (_ : Nat) < _); (first | assumption | exact Nat.le_of_ble_eq_true rfl | exact size_lt (Nat.le_of_ble_eq_true rfl) | omega | (simp; done) | (simp; omega) | fail))
 | ((with_reducible show (_ : Nat) ≤ _); (first | assumption | exact Nat.le_of_ble_eq_true rfl | exact size_le (Nat.le_of_ble_eq_true rfl) | omega | (simp; done) | (simp; omega) | fail))
 | ((with_reducible show Own _ _ _ _); (first | walk_at "own" | (walk_at "st"; walk_at "own") | fail))
 | ((with_reducible show SqL _ _ _ _); (first | assumption | exact SqL.of (by walk_at "at") | fail))
 | ((with_reducible show SqT _ _ _ _); (first | assumption | exact hO.psq (by walk_at "mem") | exact SqT.of (by walk_at "at") | fail))
  | ((with_reducible show Cls _ _); exact Txt.cl_Renamer T) | ((with_reducible show NoAttr _ _ _); exact Txt.n_Renamer_new_map T) | (with_reducible exact gt_Renamer_new_map) | ((with_reducible show NoAttr _ _ _); exact Txt.n_Renamer_old_map T) | (with_reducible exact gt_Renamer_old_map) | ((with_reducible show NoAttr _ _ _); exact Txt.n_Renamer_free T) | (with_reducible exact gt_Renamer_free) | ((with_reducible show NoAttr _ _ _); exact Txt.n_Renamer_lendings T) | (with_reducible exact gt_Renamer_lendings) | ((with_reducible show NoAttr _ _ _); exact Txt.n_Renamer_cells T) | (with_reducible exact gt_Renamer_cells)
 | ((with_reducible show SqL _ _ _ _ ∨ SqT _ _ _ _); (first | exact Or.inl (SqL.of (by walk_at "at")) | exact Or.inr (SqT.of (by walk_at "at")) | fail))
 | ((with_reducible show Dp _ _ _ _); (first | assumption | exact hO.dpL (by walk_at "mem") | exact .lst (SqL.of (by walk_at "at")) (hO.all (by walk_at "dv")) | exact hO.one (by walk_at "dv") | fail))
 | ((with_reducible show TruV _ _ _ _); (first | exact Or.inl ⟨_, SqL.of (by walk_at "at"), rfl⟩ | exact Or.inr (Or.inr ⟨_, by walk_at "at", rfl⟩) | exact Or.inr (Or.inl ⟨_, SqT.of (by walk_at "at"), rfl⟩) | fail))
 | ((with_reducible show RgOk _ _); exact RgOk.of_le (by omega) (by omega) (by omega) (by omega))
 | rfl | (with_reducible assumption) | apply And.intro | apply Exists.intro | refine iteT ?_ | refine iteF ?_
 | (walk_at "st"; (try walk_at "fl"))
 | ((with_reducible show ∀ _ : Addr, _ = none → _); (fail_if_success (with_reducible show ∀ _ : Addr, _ = none → ∃ _ : Nat → Nat → Hp → Prop, _)); intro p fp; walk_at "st")
 | (refine Or.inl ⟨SqL.of (by walk_at "at"), ?_⟩) | (refine Or.inr ⟨SqT.of (by walk_at "at"), ?_⟩) | exact Or.inl ⟨_, by walk_at "at", rfl⟩ | exact Or.inl ⟨rfl, _, SqL.of (by walk_at "at")⟩ | exact tyl_of (by walk_at "at") | exact Or.inl (SqL.of (by walk_at "at")) | exact Or.inr (SqT.of (by walk_at "at")) | exact Or.inl (by walk_at "at") | exact size_le (Nat.le_of_ble_eq_true rfl) | exact Nat.le_of_ble_eq_true rfl | exact True.intro | exact Or.inl rfl | exact Or.inr rfl | (show (_ : Prop); assumption) | (show (_ : Prop); omega) | (show (_ : Prop); dsimp only; omega) | exact mulw64 (by omega) (by omega) | exact mulw64 (by (try dsimp only); omega) (by (try dsimp only); omega) | fail))
local macro_rules | `(tactic| walk_at "go") => `(tactic| repeat walk_at "g1")

section
variable {P : Program} {w : World} {K : PySem.W.Frag} {mg : Str → Option Value} {base : Heap}
def sp_copy (K : PySem.W.Frag) (C : Addr) : Sp := fun vs H Q _ => ∃ (x dx n o f l c : Addr) (S : RS) (m : Nat) (R : List (Addr × Ob)) (P : List Pf), vs = [.ref x] ∧ Own K H (rn C x dx n o f l c S ++ R) P ∧ Ok S m ∧ ∀ (y dy n' o' f' l' c' : Addr) (H' : Hp) (P' : List Pf), Ps P P' → Own K H' (rn C y dy n' o' f' l' c' S ++ (rn C x dx n o f l c S ++ R)) P' → Q (.ref y) H'
theorem ok_Renamer_copy (T : Txt K mg) : FnOk P w K mg base CX0 6 T.f_Renamer_copy T.fd_Renamer_copy ["self"] (sp_copy K T.C_Renamer) := by
  have G_Renamer_init := ok_Renamer_init (P := P) (w := w) (base := base) T
  refine T.F_Renamer_copy.ok sc_Renamer_copy (fun vs H Q E h => ?_) (fun cdv A outer s H vs Q E hr h => ?_)
  · obtain ⟨x, dx, n, o, f, l, c, S, m, R, P, rfl, hO, hk, k⟩ := h; rfl
  · obtain ⟨x, dx, n, o, f, l, c, S, m, R, P, rfl, hO, hk, k⟩ := h
    refine ⟨_, (pss_cons (ps_set (i := 1) sc_Renamer_copy.nd rfl (Or.inl rfl) (pe_make T.mk_Renamer G_Renamer_init (hr.mono (by decide)) rfl T.g_Renamer T.b_Renamer_init .nil pass0 (pa_cons (pe_callB call_len_list (by rfl) T.m_len (by decide +kernel) (pa_cons (pe_fld (pv 0) rfl) pa_nil)) pa_nil)))
        (pss_cons (ps_fld (pv 1) (pe_callTy call_list_of (by rfl) T.m_list (by decide +kernel) (pa_cons (pe_fld (pv 0) rfl) pa_nil)) rfl)
        (pss_cons (ps_fld (pv 1) (pe_callTy call_list_of (by rfl) T.m_list (by decide +kernel) (pa_cons (pe_fld (pv 0) rfl) pa_nil)) rfl)
        (pss_cons (ps_fld (pv 1) (pe_callTy call_list_of (by rfl) T.m_list (by decide +kernel) (pa_cons (pe_fld (pv 0) rfl) pa_nil)) rfl)
        (pss_cons (ps_fld (pv 1) (pe_callTy call_list_of (by rfl) T.m_list (by decide +kernel) (pa_cons (pe_fld (pv 0) rfl) pa_nil)) rfl)
        (pss_cons (ps_fld (pv 1) (pe_callTy call_list_of (by rfl) T.m_list (by decide +kernel) (pa_cons (pe_fld (pv 0) rfl) pa_nil)) rfl)
        (pss_one (ps_ret (pv 1))))))))), ?_⟩
    clear G_Renamer_init
    clear hr
    have hF := hO
    simp only [rn, List.cons_append, List.nil_append] at hO k
    obtain ⟨lv, o1⟩ := hO.openL (a := l) (by walk_at "mem")
    replace hO := o1 _ (by walk_at "setat")
    have hll := (hO.pdp (vs := lv) (by walk_at "mem")).len
    rw [List.length_map] at hll
    clear o1
    have len := hk.cl
    have hmb := hk.mb
    walk_at "go"
    walk_at "mk"
    walk_at "go"
    intro n' o' f' l' c' H2 hO
    simp only [rn, List.cons_append, List.nil_append] at hO
    walk_at "go"
    apply k (P' := P)
    exact Ps.refl
    walk_at "fin"
end
end K67

set_option Elab.async false
set_option linter.all false
set_option maxRecDepth 100000
set_option maxHeartbeats 8000000

namespace K67
open PySem PySem.Spec PyProof.Rows L2 Hx 
local macro_rules | `(tactic| walk_at "sm") => `(tactic| repeat' (first | assumption | apply Hx.Same.upd | exact L2.Same.refl _ | apply same_trans'))
local macro_rules | `(tactic| walk_at "hp") => `(tactic| repeat' (first | assumption | exact upd_same | apply old_upd | apply same_at))
local macro_rules | `(tactic| walk_at "rd") => `(tactic| repeat' (first | rfl | apply Exists.intro | apply And.intro | refine iteT ?_ | refine iteF ?_ | exact upd_same | exact SqL.of (by assumption) | exact SqL.of upd_same | exact SqT.of upd_same | exact SqT.of (by assumption) | ((with_reducible show (_ : Int) < _); omega) | ((with_reducible show (_ : Int) ≤ _); omega) | (show (_ : Prop); assumption) | exact Or.inl ⟨_, by assumption, rfl⟩ | exact Or.inl ⟨rfl, _, SqL.of (by assumption)⟩ | exact Or.inl ⟨rfl, _, SqL.of upd_same⟩ | apply old_upd | apply Hx.SqL.new | apply tyl_new | apply Pot.new | exact same_at (by assumption) (by assumption) | exact Or.inl (SqL.of (by assumption)) | exact Or.inl (by assumption) | exact Or.inl (SqL.of upd_same) | exact size_le (Nat.le_of_ble_eq_true rfl) | exact Nat.le_of_ble_eq_true rfl | exact True.intro | exact Or.inl rfl | exact Or.inr rfl | (show (_ : Prop); omega) | (show (_ : Prop); dsimp only; omega) | exact mulw64 (by omega) (by omega) | exact mulw64 (by (try dsimp only); omega) (by (try dsimp only); omega)))
set_option hygiene false in
local macro_rules | `(tactic| walk_at "fl") => `(tactic| simp only [pu_Renamer_new_map, pi_Renamer_new_map, pu_Renamer_old_map, pi_Renamer_old_map, pu_Renamer_free, pi_Renamer_free, pu_Renamer_lendings, pi_Renamer_lendings, pu_Renamer_cells, pi_Renamer_cells] at hO)
local macro_rules | `(tactic| walk_at "mem") => `(tactic| ((repeat (first | exact List.Mem.head _ | apply List.Mem.tail | fail)); done))
local macro_rules | `(tactic| walk_at "setat") => `(tactic| ((repeat (first | (with_reducible exact At.head) | (with_reducible apply At.tail) | (with_reducible apply At.app) | fail)); done))
set_option hygiene false in
local macro_rules | `(tactic| walk_at "dv") => `(tactic| ((repeat' (first | exact Dv.nil | exact Dv.of (by walk_at "mem") | exact Dv.ints _ | exact Dv1.of (by walk_at "mem") | exact Dv1.int _ | exact Dv1.non | exact Dv1.bl _ | exact Dv1.str _ | (with_reducible apply Dv.cons) | refine Dv1.tup (by walk_at "mem") ?_ | refine Dv1.lst (by walk_at "mem") ?_ | (with_reducible apply Dv.app) | fail)); done))
local macro_rules | `(tactic| walk_at "ft") => `(tactic| (first | (with_reducible exact Ft.refl) | ((with_reducible apply Ft.toL); focus walk_at "dv") | ((with_reducible apply Ft.toS); focus assumption) | (with_reducible apply Ft.lst) | (with_reducible apply Ft.Le) | (with_reducible apply Ft.dK) | (with_reducible apply Ft.De) | (with_reducible apply Ft.ins) | (with_reducible apply Ft.toL) | (with_reducible apply Ft.toS) | (with_reducible apply Ft.toD) | fail))
local macro_rules | `(tactic| walk_at "sbL") => `(tactic| repeat' (first | (with_reducible exact Sb.refl _) | exact Sb.nil | (with_reducible apply Sb.cons) | (with_reducible apply Sb.app) | (with_reducible exact Pk.one) | (with_reducible exact Pk.here) | (with_reducible exact Pk.all) | (with_reducible apply Pk.skip1) | (with_reducible apply Pk.skipB) | (with_reducible apply Sb.skip) | (with_reducible apply Sb.skipB) | ((with_reducible show Ft _ _ _ _); walk_at "ft") | ((with_reducible show (_ : List _) = _); (first | rfl | (simp [List.map_set, List.map_append]; done) | fail)) | fail))
local macro_rules | `(tactic| walk_at "sb") => `(tactic| ((walk_at "sbL"); done))
local macro_rules | `(tactic| walk_at "ps") => `(tactic| ((repeat' (first | (with_reducible exact Ps.refl) | exact Ps.nil | (with_reducible apply Ps.cons) | exact List.Mem.head _ | apply List.Mem.tail | (with_reducible apply Ps.skip) | fail)); done))
set_option hygiene false in
local macro_rules | `(tactic| walk_at "at") => `(tactic| first | assumption | exact Own.raw hO (by walk_at "mem") | exact Own.ptup hO (by walk_at "mem") | exact Own.plst hO (by walk_at "mem") | fail)
set_option hygiene false in
local macro_rules | `(tactic| walk_at "st") => `(tactic| (rw [upd_mkO hO]; generalize e : updX _ _ _ = H1; (first | ((apply Own.cset hO e); (focus walk_at "setat"); (try clear hO e); intro hO) | ((apply Own.cnewT hO e); (focus assumption); (try clear hO e); intro hO) | ((apply Own.cnew hO e); (focus assumption); (try clear hO e); intro hO) | fail)))
set_option hygiene false in
local macro_rules | `(tactic| walk_at "mk") => `(tactic| (intro p1 p2 f1 f2 f3; rw [upd_mkO hO]; generalize e : upd (updX _ _ _) _ _ = H1; apply Own.cmake hO f1 f2 f3 e; (try clear hO e); intro hO))
set_option hygiene false in
local macro_rules | `(tactic| walk_at "own") => `(tactic| (first | ((apply Own.sub hO); (focus walk_at "sb"); (focus walk_at "ps")) | ((apply Own.sub hF); (focus walk_at "sb"); (focus walk_at "ps")) | fail))
set_option hygiene false in
local macro_rules | `(tactic| walk_at "fin") => `(tactic| (refine Own.sub hO ?_ (by walk_at "ps"); walk_at "sbL"))
set_option hygiene false in
local macro_rules | `(tactic| walk_at "g1") => `(tactic| (first
 | ((with_reducible show (_ : Option HO) = _); walk_at "at")
 | ((with_reducible show (_ : Int) < _); omega) | ((with_reducible show (_ : Int) ≤ _); omega)
 | ((with_reducible show (_ : Nat) < _); (first | assumption | exact Nat.le_of_ble_eq_true rfl | exact size_lt (Nat.le_of_ble_eq_true rfl) | omega | (simp; done) | (simp; omega) | fail))
 | ((with_reducible show (_ : Nat) ≤ _); (first | assumption | exact Nat.le_of_ble_eq_true rfl | exact size_le (Nat.le_of_ble_eq_true rfl) | omega | (simp; done) | (simp; omega) | fail))
 | ((with_reducible show Own _ _ _ _); (first | walk_at "own" | (walk_at "st"; walk_at "own") | fail))
 | ((with_reducible show SqL _ _ _ _); (first | assumption | exact SqL.of (by walk_at "at") | fail))
 | ((with_reducible show SqT _ _ _ _); (first | assumption | exact hO.psq (by walk_at "mem") | exact SqT.of (by walk_at "at") | fail))
  | ((with_reducible show Cls _ _); exact Txt.cl_Renamer T) | ((with_reducible show NoAttr _ _ _); exact Txt.n_Renamer_new_map T) | (with_reducible exact gt_Renamer_new_map) | ((with_reducible show NoAttr _ _ _); exact Txt.n_Renamer_old_map T) | (with_reducible exact gt_Renamer_old_map) | ((with_reducible show NoAttr _ _ _); exact Txt.n_Renamer_free T) | (with_reducible exact gt_Renamer_free) | ((with_reducible show NoAttr _ _ _); exact Txt.n_Renamer_lendings T) | (with_reducible exact gt_Renamer_lendings) | ((with_reducible show NoAttr _ _ _); exact Txt.n_Renamer_cells T) | (with_reducible exact gt_Renamer_cells)
 | ((with_reducible show SqL _ _ _ _ ∨ SqT _ _ _ _); (first | exact Or.inl (SqL.of (by walk_at "at")) | exact Or.inr (SqT.of (by walk_at "at")) | fail))
 | ((with_reducible show Dp _ _ _ _); (first | assumption | exact hO.dpL (by walk_at "mem") | exact .lst (SqL.of (by walk_at "at")) (hO.all (by walk_at "dv")) | exact hO.one (by walk_at "dv") | fail))
 | ((with_reducible show TruV _ _ _ _); (first | exact Or.inl ⟨_, SqL.of (by walk_at "at"), rfl⟩ | exact Or.inr (Or.inr ⟨_, by walk_at "at", rfl⟩) | exact Or.inr (Or.inl ⟨_, SqT.of (by walk_at "at"), rfl⟩) | fail))
 | ((with_reducible show RgOk _ _); exact RgOk.of_le (by omega) (by omega) (by omega) (by omega))
 | rfl | (with_reducible assumption) | apply And.intro | apply Exists.intro | refine iteT ?_ | refine iteF ?_
 | (walk_at "st"; (try walk_at "fl"))
 | ((with_reducible show ∀ _ : Addr, _ = none → _); (fail_if_success (with_reducible show ∀ _ : Addr, _ = none → ∃ _ : Nat → Nat → Hp → Prop, _)); intro p fp; walk_at "st")
 | (refine Or.inl ⟨SqL.of (by walk_at "at"), ?_⟩) | (refine Or.inr ⟨SqT.of (by walk_at "at"), ?_⟩) | exact Or.inl ⟨_, by walk_at "at", rfl⟩ | exact Or.inl ⟨rfl, _, SqL.of (by walk_at "at")⟩ | exact tyl_of (by walk_at "at") | exact Or.inl (SqL.of (by walk_at "at")) | exact Or.inr (SqT.of (by walk_at "at")) | exact Or.inl (by walk_at "at") | exact size_le (Nat.le_of_ble_eq_true rfl) | exact Nat.le_of_ble_eq_true rfl | exact True.intro | exact Or.inl rfl | exact Or.inr rfl | (show (_ : Prop); assumption) | (show (_ : Prop); omega) | (show (_ : Prop); dsimp only; omega) | exact mulw64 (by omega) (by omega) | exact mulw64 (by (try dsimp only); omega) (by (try dsimp only); omega) | fail))
local macro_rules | `(tactic| walk_at "go") => `(tactic| repeat walk_at "g1")

section
variable {P : Program} {w : World} {K : PySem.W.Frag} {mg : Str → Option Value} {base : Heap}
def sp_eqR (K : PySem.W.Frag) (C : Addr) : Sp := fun vs H Q _ => ∃ (x dx n o f l c : Addr) (S : RS) (x2 : Addr) (R0 : List (Addr × Ob)) (P : List Pf), vs = [.ref x, .ref x2] ∧ Own K H (rn C x dx n o f l c S ++ R0) P ∧
  ((∃ (dx2 n2 o2 f2 l2 c2 : Addr) (S2 : RS) (R : List (Addr × Ob)), Own K H (rn C x dx n o f l c S ++ (rn C x2 dx2 n2 o2 f2 l2 c2 S2 ++ R)) P ∧
    ∀ (H' : Hp) (P' : List Pf), Ps P P' → Own K H' (rn C x dx n o f l c S ++ (rn C x2 dx2 n2 o2 f2 l2 c2 S2 ++ R)) P' → Q (.bl (PyData.eqv (tdD S) (tdD S2))) H')
  ∨ (∃ xs : List V, H x2 = some (.tup xs) ∧ Q (.bl false) H))
theorem ok_Renamer_eq (T : Txt K mg) : FnOk P w K mg base CX0 2 T.f_Renamer_eq T.fd_Renamer_eq ["self", "other"] (sp_eqR K T.C_Renamer) := by
  have G_Renamer_told := ok_Renamer_told (P := P) (w := w) (base := base) T
  refine T.F_Renamer_eq.ok sc_Renamer_eq (fun vs H Q E h => ?_) (fun cdv A outer s H vs Q E hr h => ?_)
  · obtain ⟨x, dx, n, o, f, l, c, S, x2, R0, P, rfl, hO0, hk⟩ := h; rfl
  · obtain ⟨x, dx, n, o, f, l, c, S, x2, R0, P, rfl, hO0, hk⟩ := h
    refine ⟨_, (pss_one (ps_ret (pe_and (pe_callB call_isi (by rfl) T.m_isinstance (by decide +kernel) (pa_cons (pv 1) (pa_cons (pe_glob (v := .ref T.C_Renamer) rfl T.g_Renamer rfl) pa_nil))) (pe_one (pe_cmpR (op_eqD hr.units) (pe_meth0 (pv 0) T.cl_Renamer T.me_Renamer_told G_Renamer_told (hr.mono (by decide)) T.b_Renamer_told .nil pass0) (pe_meth0 (pv 1) T.cl_Renamer T.me_Renamer_told G_Renamer_told (hr.mono (by decide)) T.b_Renamer_told .nil pass0) (nomark _)))))), ?_⟩
    clear G_Renamer_told
    clear hr
    have cv : ClsV (.ref T.C_Renamer) (.ref T.C_Renamer) := .own _
    rcases hk with ⟨dx2, n2, o2, f2, l2, c2, S2, R, hO, k⟩ | ⟨xs, hb, k⟩
    · have hF := hO
      simp only [rn, List.cons_append, List.nil_append] at hO
      have ty : TyX K H (.ref x2) (.ref T.C_Renamer) := .base (.ins (hO.raw (by walk_at "mem")) T.cl_Renamer T.ic_Renamer T.in_Renamer T.it_Renamer T.im_Renamer)
      have ks : PySem.W.kitOne K (.ref T.C_Renamer) (.ref T.C_Renamer) = some true := kit_self'
      walk_at "go"
      intro t1 H1 P1 sp1 hO
      have hF := hO
      walk_at "go"
      intro t2 H2 P2 sp2 hO
      have d1 := hO.pd1 (List.mem_cons_of_mem _ (sp2 _ (by walk_at "mem" : Pf.dp [.ref t1] [tdD S] ∈ _)))
      have d2 := hO.pd1 (by walk_at "mem" : Pf.dp [.ref t2] [tdD S2] ∈ _)
      have S1 := td_sh S
      have S3 := td_sh S2
      walk_at "go"
      exact k _ _ (fun q hq => List.mem_cons_of_mem _ (sp2 q (List.mem_cons_of_mem _ (sp1 q hq)))) (hO.sub (Sb.app (Pk.skipB Pk.here) (Sb.refl _)) Ps.refl)
    · have hO := hO0
      have ty : TyX K H (.ref x2) (.type "tuple") := .base (.tup hb)
      have ks : PySem.W.kitOne K (.type "tuple") (.ref T.C_Renamer) = some false := kit_notT T.ik_Renamer T.ty_Renamer T.sl_Renamer
      walk_at "go"
end
end K67

set_option Elab.async false
set_option linter.all false
set_option maxRecDepth 100000
set_option maxHeartbeats 8000000

namespace K67
open PySem PySem.Spec PyProof.Rows L2 Hx 
local macro_rules | `(tactic| walk_at "sm") => `(tactic| repeat' (first | assumption | apply Hx.Same.upd | exact L2.Same.refl _ | apply same_trans'))
local macro_rules | `(tactic| walk_at "hp") => `(tactic| repeat' (first | assumption | exact upd_same | apply old_upd | apply same_at))
local macro_rules | `(tactic| walk_at "rd") => `(tactic| repeat' (first | rfl | apply Exists.intro | apply And.intro | refine iteT ?_ | refine iteF ?_ | exact upd_same | exact SqL.of (by assumption) | exact SqL.of upd_same | exact SqT.of upd_same | exact SqT.of (by assumption) | ((with_reducible show (_ : Int) < _); omega) | ((with_reducible show (_ : Int) ≤ _); omega) | (show (_ : Prop); assumption) | exact Or.inl ⟨_, by assumption, rfl⟩ | exact Or.inl ⟨rfl, _, SqL.of (by assumption)⟩ | exact Or.inl ⟨rfl, _, SqL.of upd_same⟩ | apply old_upd | apply Hx.SqL.new | apply tyl_new | apply Pot.new | exact same_at (by assumption) (by assumption) | exact Or.inl (SqL.of (by assumption)) | exact Or.inl (by assumption) | exact Or.inl (SqL.of upd_same) | exact size_le (Nat.le_of_ble_eq_true rfl) | exact Nat.le_of_ble_eq_true rfl | exact True.intro | exact Or.inl rfl | exact Or.inr rfl | (show (_ : Prop); omega) | (show (_ : Prop); dsimp only; omega) | exact mulw64 (by omega) (by omega) | exact mulw64 (by (try dsimp only); omega) (by (try dsimp only); omega)))
set_option hygiene false in
local macro_rules | `(tactic| walk_at "fl") => `(tactic| simp only [pu_Renamer_new_map, pi_Renamer_new_map, pu_Renamer_old_map, pi_Renamer_old_map, pu_Renamer_free, pi_Renamer_free, pu_Renamer_lendings, pi_Renamer_lendings, pu_Renamer_cells, pi_Renamer_cells] at hO)
local macro_rules | `(tactic| walk_at "mem") => `(tactic| ((repeat (first | exact List.Mem.head _ | apply List.Mem.tail | fail)); done))
local macro_rules | `(tactic| walk_at "setat") => `(tactic| ((repeat (first | (with_reducible exact At.head) | (with_reducible apply At.tail) | (with_reducible apply At.app) | fail)); done))
set_option hygiene false in
local macro_rules | `(tactic| walk_at "dv") => `(tactic| ((repeat' (first | exact Dv.nil | exact Dv.of (by walk_at "mem") | exact Dv.ints _ | exact Dv1.of (by walk_at "mem") | exact Dv1.int _ | exact Dv1.non | exact Dv1.bl _ | exact Dv1.str _ | (with_reducible apply Dv.cons) | refine Dv1.tup (by walk_at "mem") ?_ | refine Dv1.lst (by walk_at "mem") ?_ | (with_reducible apply Dv.app) | fail)); done))
local macro_rules | `(tactic| walk_at "ft") => `(tactic| (first | (with_reducible exact Ft.refl) | ((with_reducible apply Ft.toL); focus walk_at "dv") | ((with_reducible apply Ft.toS); focus assumption) | (with_reducible apply Ft.lst) | (with_reducible apply Ft.Le) | (with_reducible apply Ft.dK) | (with_reducible apply Ft.De) | (with_reducible apply Ft.ins) | (with_reducible apply Ft.toL) | (with_reducible apply Ft.toS) | (with_reducible apply Ft.toD) | fail))
local macro_rules | `(tactic| walk_at "sbL") => `(tactic| repeat' (first | (with_reducible exact Sb.refl _) | exact Sb.nil | (with_reducible apply Sb.cons) | (with_reducible apply Sb.app) | (with_reducible exact Pk.one) | (with_reducible exact Pk.here) | (with_reducible exact Pk.all) | (with_reducible apply Pk.skip1) | (with_reducible apply Pk.skipB) | (with_reducible apply Sb.skip) | (with_reducible apply Sb.skipB) | ((with_reducible show Ft _ _ _ _); walk_at "ft") | ((with_reducible show (_ : List _) = _); (first | rfl | (simp [List.map_set, List.map_append]; done) | fail)) | fail))
local macro_rules | `(tactic| walk_at "sb") => `(tactic| ((walk_at "sbL"); done))
local macro_rules | `(tactic| walk_at "ps") => `(tactic| ((repeat' (first | (with_reducible exact Ps.refl) | exact Ps.nil | (with_reducible apply Ps.cons) | exact List.Mem.head _ | apply List.Mem.tail | (with_reducible apply Ps.skip) | fail)); done))
set_option hygiene false in
local macro_rules | `(tactic| walk_at "at") => `(tactic| first | assumption | exact Own.raw hO (by walk_at "mem") | exact Own.ptup hO (by walk_at "mem") | exact Own.plst hO (by walk_at "mem") | fail)
set_option hygiene false in
local macro_rules | `(tactic| walk_at "st") => `(tactic| (rw [upd_mkO hO]; generalize e : updX _ _ _ = H1; (first | ((apply Own.cset hO e); (focus walk_at "setat"); (try clear hO e); intro hO) | ((apply Own.cnewT hO e); (focus assumption); (try clear hO e); intro hO) | ((apply Own.cnew hO e); (focus assumption); (try clear hO e); intro hO) | fail)))
set_option hygiene false in
local macro_rules | `(tactic| walk_at "mk") => `(tactic| (intro p1 p2 f1 f2 f3; rw [upd_mkO hO]; generalize e : upd (updX _ _ _) _ _ = H1; apply Own.cmake hO f1 f2 f3 e; (try clear hO e); intro hO))
set_option hygiene false in
local macro_rules | `(tactic| walk_at "own") => `(tactic| (first | ((apply Own.sub hO); (focus walk_at "sb"); (focus walk_at "ps")) | ((apply Own.sub hF); (focus walk_at "sb"); (focus walk_at "ps")) | fail))
set_option hygiene false in
local macro_rules | `(tactic| walk_at "fin") => `(tactic| (refine Own.sub hO ?_ (by walk_at "ps"); walk_at "sbL"))
set_option hygiene false in
local macro_rules | `(tactic| walk_at "g1") => `(tactic| (first
 | ((with_reducible show (_ : Option HO) = _); walk_at "at")
 | ((with_reducible show (_ : Int) < _); omega) | ((with_reducible show (_ : Int) ≤ _); omega)
 | ((with_reducible show (_ : Nat) < _); (first | assumption | exact Nat.le_of_ble_eq_true rfl | exact size_lt (Nat.le_of_ble_eq_true rfl) | omega | (simp; done) | (simp; omega) | fail))
 | ((with_reducible show (_ : Nat) ≤ _); (first | assumption | exact Nat.le_of_ble_eq_true rfl | exact size_le (Nat.le_of_ble_eq_true rfl) | omega | (simp; done) | (simp; omega) | fail))
 | ((with_reducible show Own _ _ _ _); (first | walk_at "own" | (walk_at "st"; walk_at "own") | fail))
 | ((with_reducible show SqL _ _ _ _); (first | assumption | exact SqL.of (by walk_at "at") | fail))
 | ((with_reducible show SqT _ _ _ _); (first | assumption | exact hO.psq (by walk_at "mem") | exact SqT.of (by walk_at "at") | fail))
  | ((with_reducible show Cls _ _); exact Txt.cl_Renamer T) | ((with_reducible show NoAttr _ _ _); exact Txt.n_Renamer_new_map T) | (with_reducible exact gt_Renamer_new_map) | ((with_reducible show NoAttr _ _ _); exact Txt.n_Renamer_old_map T) | (with_reducible exact gt_Renamer_old_map) | ((with_reducible show NoAttr _ _ _); exact Txt.n_Renamer_free T) | (with_reducible exact gt_Renamer_free) | ((with_reducible show NoAttr _ _ _); exact Txt.n_Renamer_lendings T) | (with_reducible exact gt_Renamer_lendings) | ((with_reducible show NoAttr _ _ _); exact Txt.n_Renamer_cells T) | (with_reducible exact gt_Renamer_cells)
 | ((with_reducible show SqL _ _ _ _ ∨ SqT _ _ _ _); (first | exact Or.inl (SqL.of (by walk_at "at")) | exact Or.inr (SqT.of (by walk_at "at")) | fail))
 | ((with_reducible show Dp _ _ _ _); (first | assumption | exact hO.dpL (by walk_at "mem") | exact .lst (SqL.of (by walk_at "at")) (hO.all (by walk_at "dv")) | exact hO.one (by walk_at "dv") | fail))
 | ((with_reducible show TruV _ _ _ _); (first | exact Or.inl ⟨_, SqL.of (by walk_at "at"), rfl⟩ | exact Or.inr (Or.inr ⟨_, by walk_at "at", rfl⟩) | exact Or.inr (Or.inl ⟨_, SqT.of (by walk_at "at"), rfl⟩) | fail))
 | ((with_reducible show RgOk _ _); exact RgOk.of_le (by omega) (by omega) (by omega) (by omega))
 | rfl | (with_reducible assumption) | apply And.intro | apply Exists.intro | refine iteT ?_ | refine iteF ?_
 | (walk_at "st"; (try walk_at "fl"))
 | ((with_reducible show ∀ _ : Addr, _ = none → _); (fail_if_success (with_reducible show ∀ _ : Addr, _ = none → ∃ _ : Nat → Nat → Hp → Prop, _)); intro p fp; walk_at "st")
 | (refine Or.inl ⟨SqL.of (by walk_at "at"), ?_⟩) | (refine Or.inr ⟨SqT.of (by walk_at "at"), ?_⟩) | exact Or.inl ⟨_, by walk_at "at", rfl⟩ | exact Or.inl ⟨rfl, _, SqL.of (by walk_at "at")⟩ | exact tyl_of (by walk_at "at") | exact Or.inl (SqL.of (by walk_at "at")) | exact Or.inr (SqT.of (by walk_at "at")) | exact Or.inl (by walk_at "at") | exact size_le (Nat.le_of_ble_eq_true rfl) | exact Nat.le_of_ble_eq_true rfl | exact True.intro | exact Or.inl rfl | exact Or.inr rfl | (show (_ : Prop); assumption) | (show (_ : Prop); omega) | (show (_ : Prop); dsimp only; omega) | exact mulw64 (by omega) (by omega) | exact mulw64 (by (try dsimp only); omega) (by (try dsimp only); omega) | fail))
local macro_rules | `(tactic| walk_at "go") => `(tactic| repeat walk_at "g1")

section
variable {P : Program} {w : World} {K : PySem.W.Frag} {mg : Str → Option Value} {base : Heap}
def sp_Lpot (K : PySem.W.Frag) : Sp := fun vs H Q _ => ∃ (a : Addr) (ns : List Int), vs = [.ref a, .int 0] ∧ SqL K H a (ns.map V.int) ∧ ns.length ≤ 63 ∧ ∀ p (H' : Hp), Own K H' (pt p ++ []) [] → Q (.ref p) H'
theorem ok_Lpot (T : Txt K mg) : FnOk P w K mg base CX0 1 T.f_Lpot T.fd_Lpot ["_law_script", "_law_k"] (sp_Lpot K) := by
  refine T.F_Lpot.ok sc_Lpot (fun vs H Q E h => ?_) (fun cdv A outer s H vs Q E hr h => ?_)
  · obtain ⟨a, ns, rfl, hS, hl, k⟩ := h; rfl
  · obtain ⟨a, ns, rfl, hS, hl, k⟩ := h
    refine ⟨_, (pss_cons (ps_set (i := 2) sc_Lpot.nd rfl (Or.inl rfl) (pe_op op_add (pe_op op_mulW pe_int (pv 1)) pe_int))
        (pss_cons (ps_if (pt_cmpR op_lt (pv 1) (pe_callB call_len_list (by rfl) T.m_len (by decide +kernel) (pa_cons (pv 0) pa_nil)) (nomark _))
          (pss_one (ps_set (i := 2) sc_Lpot.nd rfl (Or.inl rfl) (pe_callB call_abs (by rfl) T.m_abs (by decide +kernel) (pa_cons (pe_ix ix_list (pv 0) (pv 1) (fun _ _ => rfl)) pa_nil))))
          pss_nil)
        (pss_cons (ps_set (i := 3) sc_Lpot.nd rfl (Or.inl rfl) (pe_op op_add (pe_op op_add (pe_op op_mulW (pe_op op_mod (pe_callTy call_int1i (by rfl) T.m_int (by decide +kernel) (pa_cons (pv 2) pa_nil)) pe_int) pe_int) (pe_op op_mulW pe_int (pv 1))) pe_int))
        (pss_one (ps_ret (pe_lst (pa_cons (pe_callB (call_max2 rfl) (by rfl) T.m_max (by decide +kernel) (pa_cons pe_int (pa_cons (pe_op op_sub (pv 2) (pe_op op_pow pe_int pe_int)) pa_nil))) (pa_cons (pe_op op_add (pe_op op_mod (pe_callTy call_int1i (by rfl) T.m_int (by decide +kernel) (pa_cons (pv 3) pa_nil)) pe_int) pe_int) pa_nil)))))))), ?_⟩
    clear hr
    simp only [pt, List.cons_append, List.nil_append] at k
    have hO : Own K H [] [] := Own.start
    walk_at "go"
    refine iteD (fun h => ?_) (fun h => ?_)
    · obtain ⟨v, hv, hm⟩ := pick_at (xs := ns.map V.int) (d := 0) (by omega) (by simpa using h)
      obtain ⟨z, _, rfl⟩ := List.mem_map.mp hm
      walk_at "go"
      apply k
      walk_at "fin"
      exact ⟨_, _, rfl, by split <;> omega, by omega, by omega⟩
    · walk_at "go"
      apply k
      walk_at "fin"
      exact ⟨_, _, rfl, by split <;> omega, by omega, by omega⟩

theorem ok_Ldraw (T : Txt K mg) : FnOk P w K mg base CX0 1 T.f_Ldraw T.fd_Ldraw ["_law_pot_here", "_law_size"] (spDrw K) := by
  refine T.F_Ldraw.ok sc_Ldraw (fun vs H Q E h => ?_) (fun cdv A outer s H vs Q E hr h => ?_)
  · obtain ⟨a, n, R, P, rfl, hO, hn, hn2, k⟩ := h; rfl
  · obtain ⟨a, n, R, P, rfl, hO, hn, hn2, k⟩ := h
    refine ⟨_, (pss_cons (ps_if (pt_cmpR op_gt (pe_ix ix_list (pv 0) pe_int (fun _ _ => rfl)) pe_int (nomark _))
          (pss_cons (ps_asg (pe_callB call_divmod (by rfl) T.m_divmod (by decide +kernel) (pa_cons (pe_ix ix_list (pv 0) pe_int (fun _ _ => rfl)) (pa_cons (pv 1) pa_nil))) (pg_tup rfl (pgs_cons (pg_sub (pv 0) pe_int set_list) (pgs_cons (pg_name (i := 2) sc_Ldraw.nd rfl (Or.inl rfl)) pgs_nil))))
          (pss_one (ps_ret (pv 2))))
          pss_nil)
        (pss_cons (ps_asg (pe_op op_mod (pe_callTy call_int1i (by rfl) T.m_int (by decide +kernel) (pa_cons (pe_op op_add (pe_op op_mulW (pe_ix ix_list (pv 0) pe_int (fun _ _ => rfl)) pe_int) pe_int) pa_nil)) pe_int) (pg_sub (pv 0) pe_int set_list))
        (pss_one (ps_ret (pe_op op_mod (pe_callTy call_int1i (by rfl) T.m_int (by decide +kernel) (pa_cons (pe_op op_fdiv (pe_op op_mod (pe_callTy call_int1i (by rfl) T.m_int (by decide +kernel) (pa_cons (pe_op op_mulW (pe_ix ix_list (pv 0) pe_int (fun _ _ => rfl)) (pe_ix ix_list (pv 0) pe_int (fun _ _ => rfl))) pa_nil)) pe_int) pe_int) pa_nil)) (pv 1)))))), ?_⟩
    clear hr
    simp only [pt, List.cons_append, List.nil_append] at hO k
    obtain ⟨o, ⟨x, y, rfl, hx, hy, hy2⟩, o1⟩ := hO.openS (a := a) (φ := PotO) (by walk_at "mem")
    replace hO := o1 _ (by walk_at "setat")
    clear o1
    walk_at "go"
    refine iteD (fun h => ?_) (fun h => ?_)
    · walk_at "go"
      refine k (x % n) _ (Int.emod_nonneg _ (by omega)) (Int.emod_lt_of_pos _ hn) ?_
      walk_at "fin"
      exact ⟨x / n, y, rfl, Int.ediv_nonneg hx (by omega), hy, hy2⟩
    · walk_at "go"
      refine k _ _ (Int.emod_nonneg _ (by omega)) (Int.emod_lt_of_pos _ hn) ?_
      walk_at "fin"
      exact ⟨x, _, rfl, hx, by omega, by omega⟩
def sp_Lpick (K : PySem.W.Frag) : Sp := fun vs H Q _ => ∃ (a l : Addr) (xs : List V) (R : List (Addr × Ob)) (P : List Pf), vs = [.ref a, .ref l] ∧ Own K H (pt a ++ ((l, .raw (.lst xs)) :: R)) P ∧ 0 < xs.length ∧ xs.length ≤ 1000 ∧
  ∀ (i : Nat) (v : V) (H' : Hp), xs[i]? = some v → Own K H' (pt a ++ ((l, .raw (.lst xs)) :: R)) P → Q v H'
theorem ok_Lpick (T : Txt K mg) : FnOk P w K mg base CX0 2 T.f_Lpick T.fd_Lpick ["_law_pot_here", "_law_some"] (sp_Lpick K) := by
  have G_Ldraw := ok_Ldraw (P := P) (w := w) (base := base) T
  refine T.F_Lpick.ok sc_Lpick (fun vs H Q E h => ?_) (fun cdv A outer s H vs Q E hr h => ?_)
  · obtain ⟨a, l, xs, R, P, rfl, hO, h0, h1, k⟩ := h; rfl
  · obtain ⟨a, l, xs, R, P, rfl, hO, h0, h1, k⟩ := h
    refine ⟨_, (pss_one (ps_ret (pe_ix ix_list (pv 1) (pe_call G_Ldraw (hr.mono (by decide)) rfl T.g_Ldraw T.F_Ldraw.kp T.b_Ldraw .nil pass0 (pa_cons (pv 0) (pa_cons (pe_callB call_len_list (by rfl) T.m_len (by decide +kernel) (pa_cons (pv 1) pa_nil)) pa_nil))) (fun _ _ => rfl)))), ?_⟩
    clear G_Ldraw
    clear hr
    simp only [pt, List.cons_append, List.nil_append] at hO k
    walk_at "go"
    intro d H1 d0 d1 hO
    obtain ⟨d, rfl⟩ := Int.eq_ofNat_of_zero_le d0
    have dl : d < xs.length := by omega
    have ad : atI xs (d : Int) = some xs[d] := atI_nat (List.getElem?_eq_getElem dl)
    simp only [pt, List.cons_append, List.nil_append] at hO
    walk_at "go"
    exact k d _ _ (List.getElem?_eq_getElem dl) hO
end
end K67

set_option Elab.async false
set_option linter.all false
set_option maxRecDepth 100000
set_option maxHeartbeats 8000000

namespace K67
open PySem PySem.Spec PyProof.Rows L2 Hx 
local macro_rules | `(tactic| walk_at "sm") => `(tactic| repeat' (first | assumption | apply Hx.Same.upd | exact L2.Same.refl _ | apply same_trans'))
local macro_rules | `(tactic| walk_at "hp") => `(tactic| repeat' (first | assumption | exact upd_same | apply old_upd | apply same_at))
local macro_rules | `(tactic| walk_at "rd") => `(tactic| repeat' (first | rfl | apply Exists.intro | apply And.intro | refine iteT ?_ | refine iteF ?_ | exact upd_same | exact SqL.of (by assumption) | exact SqL.of upd_same | exact SqT.of upd_same | exact SqT.of (by assumption) | ((with_reducible show (_ : Int) < _); omega) | ((with_reducible show (_ : Int) ≤ _); omega) | (show (_ : Prop); assumption) | exact Or.inl ⟨_, by assumption, rfl⟩ | exact Or.inl ⟨rfl, _, SqL.of (by assumption)⟩ | exact Or.inl ⟨rfl, _, SqL.of upd_same⟩ | apply old_upd | apply Hx.SqL.new | apply tyl_new | apply Pot.new | exact same_at (by assumption) (by assumption) | exact Or.inl (SqL.of (by assumption)) | exact Or.inl (by assumption) | exact Or.inl (SqL.of upd_same) | exact size_le (Nat.le_of_ble_eq_true rfl) | exact Nat.le_of_ble_eq_true rfl | exact True.intro | exact Or.inl rfl | exact Or.inr rfl | (show (_ : Prop); omega) | (show (_ : Prop); dsimp only; omega) | exact mulw64 (by omega) (by omega) | exact mulw64 (by (try dsimp only); omega) (by (try dsimp only); omega)))
set_option hygiene false in
local macro_rules | `(tactic| walk_at "fl") => `(tactic| simp only [pu_Renamer_new_map, pi_Renamer_new_map, pu_Renamer_old_map, pi_Renamer_old_map, pu_Renamer_free, pi_Renamer_free, pu_Renamer_lendings, pi_Renamer_lendings, pu_Renamer_cells, pi_Renamer_cells] at hO)
local macro_rules | `(tactic| walk_at "mem") => `(tactic| ((repeat (first | exact List.Mem.head _ | apply List.Mem.tail | fail)); done))
local macro_rules | `(tactic| walk_at "setat") => `(tactic| ((repeat (first | (with_reducible exact At.head) | (with_reducible apply At.tail) | (with_reducible apply At.app) | fail)); done))
set_option hygiene false in
local macro_rules | `(tactic| walk_at "dv") => `(tactic| ((repeat' (first | exact Dv.nil | exact Dv.of (by walk_at "mem") | exact Dv.ints _ | exact Dv1.of (by walk_at "mem") | exact Dv1.int _ | exact Dv1.non | exact Dv1.bl _ | exact Dv1.str _ | (with_reducible apply Dv.cons) | refine Dv1.tup (by walk_at "mem") ?_ | refine Dv1.lst (by walk_at "mem") ?_ | (with_reducible apply Dv.app) | fail)); done))
local macro_rules | `(tactic| walk_at "ft") => `(tactic| (first | (with_reducible exact Ft.refl) | ((with_reducible apply Ft.toL); focus walk_at "dv") | ((with_reducible apply Ft.toS); focus assumption) | (with_reducible apply Ft.lst) | (with_reducible apply Ft.Le) | (with_reducible apply Ft.dK) | (with_reducible apply Ft.De) | (with_reducible apply Ft.ins) | (with_reducible apply Ft.toL) | (with_reducible apply Ft.toS) | (with_reducible apply Ft.toD) | fail))
local macro_rules | `(tactic| walk_at "sbL") => `(tactic| repeat' (first | (with_reducible exact Sb.refl _) | exact Sb.nil | (with_reducible apply Sb.cons) | (with_reducible apply Sb.app) | (with_reducible exact Pk.one) | (with_reducible exact Pk.here) | (with_reducible exact Pk.all) | (with_reducible apply Pk.skip1) | (with_reducible apply Pk.skipB) | (with_reducible apply Sb.skip) | (with_reducible apply Sb.skipB) | ((with_reducible show Ft _ _ _ _); walk_at "ft") | ((with_reducible show (_ : List _) = _); (first | rfl | (simp [List.map_set, List.map_append]; done) | fail)) | fail))
local macro_rules | `(tactic| walk_at "sb") => `(tactic| ((walk_at "sbL"); done))
local macro_rules | `(tactic| walk_at "ps") => `(tactic| ((repeat' (first | (with_reducible exact Ps.refl) | exact Ps.nil | (with_reducible apply Ps.cons) | exact List.Mem.head _ | apply List.Mem.tail | (with_reducible apply Ps.skip) | fail)); done))
set_option hygiene false in
local macro_rules | `(tactic| walk_at "at") => `(tactic| first | assumption | exact Own.raw hO (by walk_at "mem") | exact Own.ptup hO (by walk_at "mem") | exact Own.plst hO (by walk_at "mem") | fail)
set_option hygiene false in
local macro_rules | `(tactic| walk_at "st") => `(tactic| (rw [upd_mkO hO]; generalize e : updX _ _ _ = H1; (first | ((apply Own.cset hO e); (focus walk_at "setat"); (try clear hO e); intro hO) | ((apply Own.cnewT hO e); (focus assumption); (try clear hO e); intro hO) | ((apply Own.cnew hO e); (focus assumption); (try clear hO e); intro hO) | fail)))
set_option hygiene false in
local macro_rules | `(tactic| walk_at "mk") => `(tactic| (intro p1 p2 f1 f2 f3; rw [upd_mkO hO]; generalize e : upd (updX _ _ _) _ _ = H1; apply Own.cmake hO f1 f2 f3 e; (try clear hO e); intro hO))
set_option hygiene false in
local macro_rules | `(tactic| walk_at "own") => `(tactic| (first | ((apply Own.sub hO); (focus walk_at "sb"); (focus walk_at "ps")) | ((apply Own.sub hF); (focus walk_at "sb"); (focus walk_at "ps")) | fail))
set_option hygiene false in
local macro_rules | `(tactic| walk_at "fin") => `(tactic| (refine Own.sub hO ?_ (by walk_at "ps"); walk_at "sbL"))
set_option hygiene false in
local macro_rules | `(tactic| walk_at "g1") => `(tactic| (first
 | ((with_reducible show (_ : Option HO) = _); walk_at "at")
 | ((with_reducible show (_ : Int) < _); omega) | ((with_reducible show (_ : Int) ≤ _); omega)
 | ((with_reducible show (_ : Nat) < _); (first | assumption | exact Nat.le_of_ble_eq_true rfl | exact size_lt (Nat.le_of_ble_eq_true rfl) | omega | (simp; done) | (simp; omega) | fail))
 | ((with_reducible show (_ : Nat) ≤ _); (first | assumption | exact Nat.le_of_ble_eq_true rfl | exact size_le (Nat.le_of_ble_eq_true rfl) | omega | (simp; done) | (simp; omega) | fail))
 | ((with_reducible show Own _ _ _ _); (first | walk_at "own" | (walk_at "st"; walk_at "own") | fail))
 | ((with_reducible show SqL _ _ _ _); (first | assumption | exact SqL.of (by walk_at "at") | fail))
 | ((with_reducible show SqT _ _ _ _); (first | assumption | exact hO.psq (by walk_at "mem") | exact SqT.of (by walk_at "at") | fail))
  | ((with_reducible show Cls _ _); exact Txt.cl_Renamer T) | ((with_reducible show NoAttr _ _ _); exact Txt.n_Renamer_new_map T) | (with_reducible exact gt_Renamer_new_map) | ((with_reducible show NoAttr _ _ _); exact Txt.n_Renamer_old_map T) | (with_reducible exact gt_Renamer_old_map) | ((with_reducible show NoAttr _ _ _); exact Txt.n_Renamer_free T) | (with_reducible exact gt_Renamer_free) | ((with_reducible show NoAttr _ _ _); exact Txt.n_Renamer_lendings T) | (with_reducible exact gt_Renamer_lendings) | ((with_reducible show NoAttr _ _ _); exact Txt.n_Renamer_cells T) | (with_reducible exact gt_Renamer_cells)
 | ((with_reducible show SqL _ _ _ _ ∨ SqT _ _ _ _); (first | exact Or.inl (SqL.of (by walk_at "at")) | exact Or.inr (SqT.of (by walk_at "at")) | fail))
 | ((with_reducible show Dp _ _ _ _); (first | assumption | exact hO.dpL (by walk_at "mem") | exact .lst (SqL.of (by walk_at "at")) (hO.all (by walk_at "dv")) | exact hO.one (by walk_at "dv") | fail))
 | ((with_reducible show TruV _ _ _ _); (first | exact Or.inl ⟨_, SqL.of (by walk_at "at"), rfl⟩ | exact Or.inr (Or.inr ⟨_, by walk_at "at", rfl⟩) | exact Or.inr (Or.inl ⟨_, SqT.of (by walk_at "at"), rfl⟩) | fail))
 | ((with_reducible show RgOk _ _); exact RgOk.of_le (by omega) (by omega) (by omega) (by omega))
 | rfl | (with_reducible assumption) | apply And.intro | apply Exists.intro | refine iteT ?_ | refine iteF ?_
 | (walk_at "st"; (try walk_at "fl"))
 | ((with_reducible show ∀ _ : Addr, _ = none → _); (fail_if_success (with_reducible show ∀ _ : Addr, _ = none → ∃ _ : Nat → Nat → Hp → Prop, _)); intro p fp; walk_at "st")
 | (refine Or.inl ⟨SqL.of (by walk_at "at"), ?_⟩) | (refine Or.inr ⟨SqT.of (by walk_at "at"), ?_⟩) | exact Or.inl ⟨_, by walk_at "at", rfl⟩ | exact Or.inl ⟨rfl, _, SqL.of (by walk_at "at")⟩ | exact tyl_of (by walk_at "at") | exact Or.inl (SqL.of (by walk_at "at")) | exact Or.inr (SqT.of (by walk_at "at")) | exact Or.inl (by walk_at "at") | exact size_le (Nat.le_of_ble_eq_true rfl) | exact Nat.le_of_ble_eq_true rfl | exact True.intro | exact Or.inl rfl | exact Or.inr rfl | (show (_ : Prop); assumption) | (show (_ : Prop); omega) | (show (_ : Prop); dsimp only; omega) | exact mulw64 (by omega) (by omega) | exact mulw64 (by (try dsimp only); omega) (by (try dsimp only); omega) | fail))
local macro_rules | `(tactic| walk_at "go") => `(tactic| repeat walk_at "g1")

section
variable {P : Program} {w : World} {K : PySem.W.Frag} {mg : Str → Option Value} {base : Heap}
theorem opw {K : PySem.W.Frag} {H : Hp} {L : List (Addr × Ob)} {P : List Pf} {v : V} {q : Wr} (h : Own K H L P) (x : Dv1 K P v (pwD q)) : ∃ t, v = .ref t ∧ Own K H L (.sq t [.int q.1, oV q.2] :: P) := by
  obtain ⟨r, o⟩ := q
  cases o with
  | none => exact h.opn x
  | some z => exact h.opn x
theorem ws_sh (ws : List Wr) : SeqAt.shaped (.list (ws.map pwD)) = true := flat_sh (n := 2) (flat_list (n := 1) fun d hd => by
  obtain ⟨z, _, rfl⟩ := List.mem_map.mp hd
  exact flat_tup (n := 0) fun d hd => by simp only [List.mem_cons, List.not_mem_nil, or_false] at hd; rcases hd with rfl | rfl; exact flat_int 0 _; exact flat_ol z.2)
def sp_Ldeed (K : PySem.W.Frag) : Sp := fun vs H Q _ => ∃ (a wl : Addr) (m : Nat) (ws : List Wr) (R : List (Addr × Ob)) (P : List Pf), vs = [.ref a, .int (m : Int), .ref wl] ∧ Own K H (pt a ++ ((wl, .L (ws.map pwD)) :: R)) P ∧ (9 ≤ m ∧ m ≤ 48) ∧ ws.length + 8 ≤ m ∧
  ∀ (d : Deed) (dl : Addr) (H' : Hp), d.ok m ws → Own K H' ((dl, .raw (.lst (dV d))) :: (pt a ++ ((wl, .L (ws.map pwD)) :: R))) P → Q (.ref dl) H'
theorem ok_Ldeed (T : Txt K mg) : FnOk P w K mg base CX0 3 T.f_Ldeed T.fd_Ldeed ["_law_pot_here", "_law_many", "_law_writes"] (sp_Ldeed K) := by
  have G_Ldraw := ok_Ldraw (P := P) (w := w) (base := base) T
  have G_Lpick := ok_Lpick (P := P) (w := w) (base := base) T
  refine T.F_Ldeed.ok sc_Ldeed (fun vs H Q E h => ?_) (fun cdv A outer s H vs Q E hr h => ?_)
  · obtain ⟨a, wl, m, ws, R, P, rfl, hO, hm, hw, k⟩ := h; rfl
  · obtain ⟨a, wl, m, ws, R, P, rfl, hO, hm, hw, k⟩ := h
    refine ⟨_, (pss_cons (ps_par (i := 4) (j := 5) rfl sc_Ldeed.nd rfl rfl (by decide) rfl rfl (pa_cons (pe_call G_Ldraw (hr.mono (by decide)) rfl T.g_Ldraw T.F_Ldraw.kp T.b_Ldraw .nil pass0 (pa_cons (pv 0) (pa_cons pe_int pa_nil))) (pa_cons (pe_lc (own := [("_law_at", 3), ("_law_one", 7)]) (g := gTup _ 2 (gCons (gName 3) (gCons (gName 7) gNil))) (tt := (tTest (tOp rIsN (tOp (rIxT K) (tVar 7) (tC (.int 1))) (tC .non)))) rfl sc_Ldeed.nd (pi_enum rfl T.m_enumerate (pa_cons (pv 2) pa_nil)) (blkOk_by (N := ["_law_pot_here", "_law_many", "_law_writes", "_law_at", "_law_way", "_law_waiting", "_law_which", "_law_one"]) (sc := defScope s_Ldeed) (by decide +kernel)) (fun _ _ _ _ _ => pg_pair (i := 3) (j := 7) rfl sc_Ldeed.nd rfl rfl (Or.inl rfl) (Or.inl rfl)) (fun _ _ _ _ _ => pts_one (pt_cmpR op_isN (pe_ix ix_tup (pv 7) pe_int (fun _ _ => rfl)) pe_non (nomark _))) (fun _ _ _ _ _ => (pv 3))) pa_nil)) (by rfl))
        (pss_cons (ps_if (pt_mid (PW.pt (pw_and (pt_cmpR op_lt (pv 4) pe_int (nomark _)) (pw_and1 (pt_cmpR op_lt (pe_callB call_len_list (by rfl) T.m_len (by decide +kernel) (pa_cons (pv 2) pa_nil)) (pe_op op_sub (pv 1) pe_int) (nomark _))))))
          (pss_one (ps_ret (pe_lst (pa_cons pe_str (pa_cons (pe_call G_Ldraw (hr.mono (by decide)) rfl T.g_Ldraw T.F_Ldraw.kp T.b_Ldraw .nil pass0 (pa_cons (pv 0) (pa_cons pe_int pa_nil))) pa_nil)))))
          pss_nil)
        (pss_cons (ps_if (pt_mid (PW.pt (pw_and (pt_cmpR op_lt (pv 4) pe_int (nomark _)) (pw_and1 (pt_cmpR (op_neD hr.units) (pv 5) (pe_lst pa_nil) (nomark _))))))
          (pss_cons (ps_set (i := 3) sc_Ldeed.nd rfl (Or.inl rfl) (pe_call G_Lpick (hr.mono (by decide)) rfl T.g_Lpick T.F_Lpick.kp T.b_Lpick .nil pass0 (pa_cons (pv 0) (pa_cons (pv 5) pa_nil))))
          (pss_one (ps_ret (pe_lst (pa_cons pe_str (pa_cons (pv 3) (pa_cons (pe_call G_Lpick (hr.mono (by decide)) rfl T.g_Lpick T.F_Lpick.kp T.b_Lpick .nil pass0 (pa_cons (pv 0) (pa_cons (pe_lst (pa_cons pe_int (pa_cons pe_int (pa_cons (pe_call G_Ldraw (hr.mono (by decide)) rfl T.g_Ldraw T.F_Ldraw.kp T.b_Ldraw .nil pass0 (pa_cons (pv 0) (pa_cons pe_int pa_nil))) pa_nil)))) pa_nil))) pa_nil)))))))
          pss_nil)
        (pss_cons (ps_if (pt_mid (PW.pt (pw_and (pt_cmpR op_eq (pv 4) pe_int (nomark _)) (pw_and1 (pt_cmpR (op_neD hr.units) (pv 2) (pe_lst pa_nil) (nomark _))))))
          (pss_one (ps_ret (pe_lst (pa_cons pe_str pa_nil))))
          pss_nil)
        (pss_cons (ps_if (pt_mid (PW.pt (pw_and (pt_cmpR (op_neD hr.units) (pv 2) (pe_lst pa_nil) (nomark _)) (pw_and1 (pt_cmpR op_notN (pe_ix ix_tup (pe_ix ix_list (pv 2) pe_int (fun _ _ => rfl)) pe_int (fun _ _ => rfl)) pe_non (nomark _))))))
          (pss_one (ps_ret (pe_lst (pa_cons pe_str pa_nil))))
          pss_nil)
        (pss_cons (ps_if (pt_cmpR (op_eqD hr.units) (pv 2) (pe_lst pa_nil) (nomark _))
          (pss_cons (ps_set (i := 6) sc_Ldeed.nd rfl (Or.inl rfl) (pe_call G_Ldraw (hr.mono (by decide)) rfl T.g_Ldraw T.F_Ldraw.kp T.b_Ldraw .nil pass0 (pa_cons (pv 0) (pa_cons pe_int pa_nil))))
          (pss_one (ps_ret (pe_lst (pa_cons pe_str (pa_cons (pv 6) (pa_cons (pe_call G_Ldraw (hr.mono (by decide)) rfl T.g_Ldraw T.F_Ldraw.kp T.b_Ldraw .nil pass0 (pa_cons (pv 0) (pa_cons pe_int pa_nil))) pa_nil)))))))
          pss_nil)
        (pss_one (ps_ret (pe_ifExp (pt_cmpR op_eq (pv 4) pe_int (nomark _)) (pe_lst (pa_cons pe_str pa_nil)) (pe_lst (pa_cons pe_str (pa_cons (pe_call G_Ldraw (hr.mono (by decide)) rfl T.g_Ldraw T.F_Ldraw.kp T.b_Ldraw .nil pass0 (pa_cons (pv 0) (pa_cons pe_int pa_nil))) pa_nil)))))))))))), ?_⟩
    clear G_Ldraw G_Lpick
    clear hr
    obtain ⟨lv, o1⟩ := hO.openL (a := wl) (ds := ws.map pwD) (List.mem_append.mpr (.inr List.mem_cons_self))
    replace hO := o1 _ (by walk_at "setat")
    have hll := (hO.pdp (vs := lv) (by walk_at "mem")).len
    rw [List.length_map] at hll
    clear o1
    have S3 := ws_sh ws
    have S2 : SeqAt.shaped (.list []) = true := by decide
    walk_at "go"
    intro way H1 y0 y1 hO
    walk_at "go"
    intro D hD
    refine lc_siftW (List.range lv.length) (fun i : Nat => V.int (i : Int)) (fun i => (ws.getD i (0, none)).2.isNone) (by rw [List.length_range]; exact walk_enum (xs := lv)) hO hD (by simp; omega) (fun H L' P' s t h => SqL.of (h.raw (s _ (List.mem_append.mpr (.inr List.mem_cons_self))))) (fun i z x H9 H' P' ys Qn Qy hz hx sp hO kn ky => ?_) (fun H2 P2 sp hO => ?_)
    · obtain ⟨T1, x1, y1, rfl, fT, rfl, e1, e2⟩ := hx
      have il : i < ws.length := by have := (List.getElem?_eq_some_iff.mp e2).1; omega
      obtain rfl : i = z := by
        rw [List.getElem?_range (by omega)] at hz
        exact Option.some.inj hz
      obtain rfl := Option.some.inj e1
      have eg : ws.getD i (0, none) = ws[i] := by rw [List.getD_eq_getElem?_getD, List.getElem?_eq_getElem il]; rfl
      rw [eg] at kn ky
      have hd : (ws.map pwD)[i]? = some (pwD ws[i]) := by rw [List.getElem?_map, List.getElem?_eq_getElem il]; rfl
      replace hO := hO.newT (vs := [V.int (i : Int), y1]) fT rfl
      obtain ⟨t1, rfl, hO⟩ := opw hO (Dv.get (Dv.of (List.mem_cons_of_mem _ (sp _ List.mem_cons_self))) e2 hd)
      generalize ws[i] = q at hO kn ky
      obtain ⟨r, o⟩ := q
      have at1 : atI [V.int r, oV o] 1 = some (oV o) := rfl
      walk_at "go"
      cases o with
      | none =>
        refine iteD (fun h => ?_) (fun h => absurd rfl h)
        walk_at "go"
        exact ky rfl _ _ (by walk_at "ps") hO
      | some z =>
        refine iteD (fun h => by cases h) (fun h => ?_)
        exact kn rfl _ _ (by walk_at "ps") hO
    have hW : ∀ i ∈ (List.range lv.length).filter (fun i => (ws.getD i (0, none)).2.isNone), ∃ r, ws[i]? = some (r, none) := fun i hi => by
      obtain ⟨h1, h2⟩ := List.mem_filter.mp hi
      have h3 : i < ws.length := by have := List.mem_range.mp h1; omega
      rw [List.getD_eq_getElem?_getD, List.getElem?_eq_getElem h3] at h2
      rw [List.getElem?_eq_getElem h3]
      rcases hq : ws[i] with ⟨r, o⟩
      rw [hq] at h2
      cases o with
      | none => exact ⟨r, rfl⟩
      | some z => cases h2
    have hW2 : ((List.range lv.length).filter (fun i => (ws.getD i (0, none)).2.isNone)).length ≤ 48 := Nat.le_trans (List.length_filter_le _ _) (by rw [List.length_range]; omega)
    generalize (List.range lv.length).filter (fun i => (ws.getD i (0, none)).2.isNone) = W at hO hW hW2
    replace hO := hO.sub (Sb.refl _) sp
    walk_at "go"
    refine Stop.mk ⟨fun b H' => Stop ((b = true → ws.length + 8 < m) ∧ Own K H' (pt a ++ ((D, .raw (.lst (W.map fun i : Nat => V.int (i : Int)))) :: (wl, .raw (.lst lv)) :: R)) (.dp lv (ws.map pwD) :: P)), ?_, fun b H3 hM => ?_⟩
    · walk_at "go"
      refine iteD (fun h => ?_) (fun h => ?_)
      · walk_at "go"
        refine ⟨⟨fun h => by have := of_decide_eq_true h; omega, ?_⟩⟩
        walk_at "fin"
      · refine ⟨⟨(fun h => nomatch h), ?_⟩⟩
        walk_at "fin"
    obtain ⟨hc, hO⟩ := hM.h
    clear hM
    cases b
    rotate_left 1
    · replace hc := hc rfl
      walk_at "go"
      intro w H4 w0 w1 hO
      obtain ⟨w, rfl⟩ := Int.eq_ofNat_of_zero_le w0
      walk_at "go"
      refine k (.lend w) _ _ ⟨by omega, hc⟩ ?_
      walk_at "fin"
    walk_at "go"
    refine Stop.mk ⟨fun b H' => Stop ((b = true → W ≠ []) ∧ Own K H' (pt a ++ ((D, .raw (.lst (W.map fun i : Nat => V.int (i : Int)))) :: (wl, .raw (.lst lv)) :: R)) (.dp lv (ws.map pwD) :: P)), ?_, fun b H3 hM => ?_⟩
    · walk_at "go"
      refine iteD (fun h => ?_) (fun h => ?_)
      · have eW : (W.map fun i : Nat => V.int (i : Int)) = (W.map fun i : Nat => (i : Int)).map V.int := by rw [List.map_map]; rfl
        have S1 := sh_ints (W.map fun i : Nat => (i : Int))
        rw [eW] at hO
        walk_at "go"
        rw [eqv_nilD]
        refine ⟨⟨fun h => ?_, ?_⟩⟩
        · intro e
          rw [e] at h
          cases h
        · rw [eW]
          walk_at "fin"
      · exact ⟨⟨(fun h => nomatch h), hO⟩⟩
    obtain ⟨hc, hO⟩ := hM.h
    clear hM
    cases b
    rotate_left 1
    · replace hc := hc rfl
      have hl0 : 0 < (W.map fun i : Nat => V.int (i : Int)).length := by rw [List.length_map]; exact List.length_pos_iff.mpr hc
      have hl1 : (W.map fun i : Nat => V.int (i : Int)).length ≤ 1000 := by rw [List.length_map]; omega
      walk_at "go"
      intro i v H4 hi hO
      rw [List.getElem?_map] at hi
      obtain ⟨z, hz, rfl⟩ := Option.map_eq_some_iff.mp hi
      obtain ⟨r, hr⟩ := hW z (List.mem_of_getElem? hz)
      walk_at "go"
      intro d H5 d0 d1 hO
      walk_at "go"
      intro i2 v2 H6 hi2 hO
      obtain ⟨z2, rfl, hz2⟩ : ∃ z2, v2 = V.int z2 ∧ 0 ≤ z2 ∧ z2 < 65536 := by
        rcases i2 with _ | _ | _ | i2 <;> simp at hi2 <;> subst hi2 <;> exact ⟨_, rfl, by omega, by omega⟩
      walk_at "go"
      refine k (.put z z2) _ _ ⟨⟨r, hr⟩, hz2⟩ ?_
      walk_at "fin"
    walk_at "go"
    refine Stop.mk ⟨fun b H' => Stop ((b = true → ws ≠ []) ∧ Own K H' (pt a ++ ((D, .raw (.lst (W.map fun i : Nat => V.int (i : Int)))) :: (wl, .raw (.lst lv)) :: R)) (.dp lv (ws.map pwD) :: P)), ?_, fun b H3 hM => ?_⟩
    · walk_at "go"
      refine iteD (fun h => ?_) (fun h => ?_)
      · walk_at "go"
        rw [eqv_nilD]
        refine ⟨⟨fun h => ?_, ?_⟩⟩
        · intro e
          rw [e] at h
          cases h
        · walk_at "fin"
      · exact ⟨⟨(fun h => nomatch h), hO⟩⟩
    obtain ⟨hc, hO⟩ := hM.h
    clear hM
    cases b
    rotate_left 1
    · replace hc := hc rfl
      walk_at "go"
      refine k .undo _ _ hc ?_
      walk_at "fin"
    walk_at "go"
    refine Stop.mk ⟨fun b H' => Stop ((b = true → ∃ r v rs, ws = (r, some v) :: rs) ∧ Own K H' (pt a ++ ((D, .raw (.lst (W.map fun i : Nat => V.int (i : Int)))) :: (wl, .raw (.lst lv)) :: R)) (.dp lv (ws.map pwD) :: P)), ?_, fun b H3 hM => ?_⟩
    · walk_at "go"
      rw [eqv_nilD]
      cases ws with
      | nil =>
        refine iteF ?_
        refine ⟨⟨(fun h => nomatch h), ?_⟩⟩
        walk_at "fin"
      | cons q rs =>
        refine iteT ?_
        obtain ⟨v9, lv0, rfl⟩ : ∃ a b, lv = a :: b := by
          cases lv with
          | nil => simp at hll
          | cons a b => exact ⟨a, b, rfl⟩
        obtain ⟨t0, rfl, hO⟩ := opw hO (Dv.hd (Dv.of List.mem_cons_self : Dv K _ (v9 :: lv0) (pwD q :: rs.map pwD)))
        have at0 : atI (V.ref t0 :: lv0) 0 = some (V.ref t0) := (atI_nat (by rfl) : atI (V.ref t0 :: lv0) ((0 : Nat) : Int) = some (V.ref t0))
        have at1 : atI [V.int q.1, oV q.2] 1 = some (oV q.2) := rfl
        walk_at "go"
        obtain ⟨r, o⟩ := q
        refine ⟨⟨fun h => ?_, ?_⟩⟩
        · cases o with
          | none => simp at h
          | some v => exact ⟨r, v, rs, rfl⟩
        · walk_at "fin"
    obtain ⟨hc, hO⟩ := hM.h
    clear hM
    cases b
    rotate_left 1
    · replace hc := hc rfl
      walk_at "go"
      refine k .keep _ _ hc ?_
      walk_at "fin"
    walk_at "go"
    rw [eqv_nilD]
    cases ws with
    | nil =>
      refine iteT ?_
      walk_at "go"
      intro w H4 w0 w1 hO
      obtain ⟨w, rfl⟩ := Int.eq_ofNat_of_zero_le w0
      walk_at "go"
      intro v H5 v0 v1 hO
      walk_at "go"
      refine k (.write w v) _ _ ⟨rfl, by omega, v0, v1⟩ ?_
      walk_at "fin"
    | cons q rs =>
      refine iteF ?_
      walk_at "go"
      refine iteD (fun h => ?_) (fun h => ?_)
      · walk_at "go"
        refine k .undo _ _ (fun h => nomatch h) ?_
        walk_at "fin"
      · walk_at "go"
        intro w H4 w0 w1 hO
        obtain ⟨w, rfl⟩ := Int.eq_ofNat_of_zero_le w0
        walk_at "go"
        refine k (.look w) _ _ (by show w < 8; omega) ?_
        walk_at "fin"
end
end K67

set_option Elab.async false
set_option linter.all false
set_option maxRecDepth 100000
set_option maxHeartbeats 8000000

namespace K67
open PySem PySem.Spec PyProof.Rows L2 Hx 
local macro_rules | `(tactic| walk_at "sm") => `(tactic| repeat' (first | assumption | apply Hx.Same.upd | exact L2.Same.refl _ | apply same_trans'))
local macro_rules | `(tactic| walk_at "hp") => `(tactic| repeat' (first | assumption | exact upd_same | apply old_upd | apply same_at))
local macro_rules | `(tactic| walk_at "rd") => `(tactic| repeat' (first | rfl | apply Exists.intro | apply And.intro | refine iteT ?_ | refine iteF ?_ | exact upd_same | exact SqL.of (by assumption) | exact SqL.of upd_same | exact SqT.of upd_same | exact SqT.of (by assumption) | ((with_reducible show (_ : Int) < _); omega) | ((with_reducible show (_ : Int) ≤ _); omega) | (show (_ : Prop); assumption) | exact Or.inl ⟨_, by assumption, rfl⟩ | exact Or.inl ⟨rfl, _, SqL.of (by assumption)⟩ | exact Or.inl ⟨rfl, _, SqL.of upd_same⟩ | apply old_upd | apply Hx.SqL.new | apply tyl_new | apply Pot.new | exact same_at (by assumption) (by assumption) | exact Or.inl (SqL.of (by assumption)) | exact Or.inl (by assumption) | exact Or.inl (SqL.of upd_same) | exact size_le (Nat.le_of_ble_eq_true rfl) | exact Nat.le_of_ble_eq_true rfl | exact True.intro | exact Or.inl rfl | exact Or.inr rfl | (show (_ : Prop); omega) | (show (_ : Prop); dsimp only; omega) | exact mulw64 (by omega) (by omega) | exact mulw64 (by (try dsimp only); omega) (by (try dsimp only); omega)))
set_option hygiene false in
local macro_rules | `(tactic| walk_at "fl") => `(tactic| simp only [pu_Renamer_new_map, pi_Renamer_new_map, pu_Renamer_old_map, pi_Renamer_old_map, pu_Renamer_free, pi_Renamer_free, pu_Renamer_lendings, pi_Renamer_lendings, pu_Renamer_cells, pi_Renamer_cells] at hO)
local macro_rules | `(tactic| walk_at "mem") => `(tactic| ((repeat (first | exact List.Mem.head _ | apply List.Mem.tail | fail)); done))
local macro_rules | `(tactic| walk_at "setat") => `(tactic| ((repeat (first | (with_reducible exact At.head) | (with_reducible apply At.tail) | (with_reducible apply At.app) | fail)); done))
set_option hygiene false in
local macro_rules | `(tactic| walk_at "dv") => `(tactic| ((repeat' (first | exact Dv.nil | exact Dv.of (by walk_at "mem") | exact Dv.ints _ | exact Dv1.of (by walk_at "mem") | exact Dv1.int _ | exact Dv1.non | exact Dv1.bl _ | exact Dv1.str _ | (with_reducible apply Dv.cons) | refine Dv1.tup (by walk_at "mem") ?_ | refine Dv1.lst (by walk_at "mem") ?_ | (with_reducible apply Dv.app) | fail)); done))
local macro_rules | `(tactic| walk_at "ft") => `(tactic| (first | (with_reducible exact Ft.refl) | ((with_reducible apply Ft.toL); focus walk_at "dv") | ((with_reducible apply Ft.toS); focus assumption) | (with_reducible apply Ft.lst) | (with_reducible apply Ft.Le) | (with_reducible apply Ft.dK) | (with_reducible apply Ft.De) | (with_reducible apply Ft.ins) | (with_reducible apply Ft.toL) | (with_reducible apply Ft.toS) | (with_reducible apply Ft.toD) | fail))
local macro_rules | `(tactic| walk_at "sbL") => `(tactic| repeat' (first | (with_reducible exact Sb.refl _) | exact Sb.nil | (with_reducible apply Sb.cons) | (with_reducible apply Sb.app) | (with_reducible exact Pk.one) | (with_reducible exact Pk.here) | (with_reducible exact Pk.all) | (with_reducible apply Pk.skip1) | (with_reducible apply Pk.skipB) | (with_reducible apply Sb.skip) | (with_reducible apply Sb.skipB) | ((with_reducible show Ft _ _ _ _); walk_at "ft") | ((with_reducible show (_ : List _) = _); (first | rfl | (simp [List.map_set, List.map_append]; done) | fail)) | fail))
local macro_rules | `(tactic| walk_at "sb") => `(tactic| ((walk_at "sbL"); done))
local macro_rules | `(tactic| walk_at "ps") => `(tactic| ((repeat' (first | (with_reducible exact Ps.refl) | exact Ps.nil | (with_reducible apply Ps.cons) | exact List.Mem.head _ | apply List.Mem.tail | (with_reducible apply Ps.skip) | fail)); done))
set_option hygiene false in
local macro_rules | `(tactic| walk_at "at") => `(tactic| first | assumption | exact Own.raw hO (by walk_at "mem") | exact Own.ptup hO (by walk_at "mem") | exact Own.plst hO (by walk_at "mem") | fail)
set_option hygiene false in
local macro_rules | `(tactic| walk_at "st") => `(tactic| (rw [upd_mkO hO]; generalize e : updX _ _ _ = H1; (first | ((apply Own.cset hO e); (focus walk_at "setat"); (try clear hO e); intro hO) | ((apply Own.cnewT hO e); (focus assumption); (try clear hO e); intro hO) | ((apply Own.cnew hO e); (focus assumption); (try clear hO e); intro hO) | fail)))
set_option hygiene false in
local macro_rules | `(tactic| walk_at "mk") => `(tactic| (intro p1 p2 f1 f2 f3; rw [upd_mkO hO]; generalize e : upd (updX _ _ _) _ _ = H1; apply Own.cmake hO f1 f2 f3 e; (try clear hO e); intro hO))
set_option hygiene false in
local macro_rules | `(tactic| walk_at "own") => `(tactic| (first | ((apply Own.sub hO); (focus walk_at "sb"); (focus walk_at "ps")) | ((apply Own.sub hF); (focus walk_at "sb"); (focus walk_at "ps")) | fail))
set_option hygiene false in
local macro_rules | `(tactic| walk_at "fin") => `(tactic| (refine Own.sub hO ?_ (by walk_at "ps"); walk_at "sbL"))
set_option hygiene false in
local macro_rules | `(tactic| walk_at "g1") => `(tactic| (first
 | ((with_reducible show (_ : Option HO) = _); walk_at "at")
 | ((with_reducible show (_ : Int) < _); omega) | ((with_reducible show (_ : Int) ≤ _); omega)
 | ((with_reducible show (_ : Nat) < _); (first | assumption | exact Nat.le_of_ble_eq_true rfl | exact size_lt (Nat.le_of_ble_eq_true rfl) | omega | (simp; done) | (simp; omega) | fail))
 | ((with_reducible show (_ : Nat) ≤ _); (first | assumption | exact Nat.le_of_ble_eq_true rfl | exact size_le (Nat.le_of_ble_eq_true rfl) | omega | (simp; done) | (simp; omega) | fail))
 | ((with_reducible show Own _ _ _ _); (first | walk_at "own" | (walk_at "st"; walk_at "own") | fail))
 | ((with_reducible show SqL _ _ _ _); (first | assumption | exact SqL.of (by walk_at "at") | fail))
 | ((with_reducible show SqT _ _ _ _); (first | assumption | exact hO.psq (by walk_at "mem") | exact SqT.of (by walk_at "at") | fail))
  | ((with_reducible show Cls _ _); exact Txt.cl_Renamer T) | ((with_reducible show NoAttr _ _ _); exact Txt.n_Renamer_new_map T) | (with_reducible exact gt_Renamer_new_map) | ((with_reducible show NoAttr _ _ _); exact Txt.n_Renamer_old_map T) | (with_reducible exact gt_Renamer_old_map) | ((with_reducible show NoAttr _ _ _); exact Txt.n_Renamer_free T) | (with_reducible exact gt_Renamer_free) | ((with_reducible show NoAttr _ _ _); exact Txt.n_Renamer_lendings T) | (with_reducible exact gt_Renamer_lendings) | ((with_reducible show NoAttr _ _ _); exact Txt.n_Renamer_cells T) | (with_reducible exact gt_Renamer_cells)
 | ((with_reducible show SqL _ _ _ _ ∨ SqT _ _ _ _); (first | exact Or.inl (SqL.of (by walk_at "at")) | exact Or.inr (SqT.of (by walk_at "at")) | fail))
 | ((with_reducible show Dp _ _ _ _); (first | assumption | exact hO.dpL (by walk_at "mem") | exact .lst (SqL.of (by walk_at "at")) (hO.all (by walk_at "dv")) | exact hO.one (by walk_at "dv") | fail))
 | ((with_reducible show TruV _ _ _ _); (first | exact Or.inl ⟨_, SqL.of (by walk_at "at"), rfl⟩ | exact Or.inr (Or.inr ⟨_, by walk_at "at", rfl⟩) | exact Or.inr (Or.inl ⟨_, SqT.of (by walk_at "at"), rfl⟩) | fail))
 | ((with_reducible show RgOk _ _); exact RgOk.of_le (by omega) (by omega) (by omega) (by omega))
 | rfl | (with_reducible assumption) | apply And.intro | apply Exists.intro | refine iteT ?_ | refine iteF ?_
 | (walk_at "st"; (try walk_at "fl"))
 | ((with_reducible show ∀ _ : Addr, _ = none → _); (fail_if_success (with_reducible show ∀ _ : Addr, _ = none → ∃ _ : Nat → Nat → Hp → Prop, _)); intro p fp; walk_at "st")
 | (refine Or.inl ⟨SqL.of (by walk_at "at"), ?_⟩) | (refine Or.inr ⟨SqT.of (by walk_at "at"), ?_⟩) | exact Or.inl ⟨_, by walk_at "at", rfl⟩ | exact Or.inl ⟨rfl, _, SqL.of (by walk_at "at")⟩ | exact tyl_of (by walk_at "at") | exact Or.inl (SqL.of (by walk_at "at")) | exact Or.inr (SqT.of (by walk_at "at")) | exact Or.inl (by walk_at "at") | exact size_le (Nat.le_of_ble_eq_true rfl) | exact Nat.le_of_ble_eq_true rfl | exact True.intro | exact Or.inl rfl | exact Or.inr rfl | (show (_ : Prop); assumption) | (show (_ : Prop); omega) | (show (_ : Prop); dsimp only; omega) | exact mulw64 (by omega) (by omega) | exact mulw64 (by (try dsimp only); omega) (by (try dsimp only); omega) | fail))
local macro_rules | `(tactic| walk_at "go") => `(tactic| repeat walk_at "g1")

section
variable {P : Program} {w : World} {K : PySem.W.Frag} {mg : Str → Option Value} {base : Heap}
def sp_Lbegun (K : PySem.W.Frag) : Sp := fun vs H Q _ => ∃ (m : Nat) (R : List (Addr × Ob)) (P : List Pf), vs = [.int (m : Int)] ∧ (9 ≤ m ∧ m ≤ 48) ∧ Own K H R P ∧
  ∀ (x n o f l c : Addr) (H' : Hp), Own K H' (on x n o f l c (s0 m) ++ R) P → Q (.ref x) H'
theorem ok_Lbegun (T : Txt K mg) : FnOk P w K mg base CX0 1 T.f_Lbegun T.fd_Lbegun ["_law_many"] (sp_Lbegun K) := by
  refine T.F_Lbegun.ok sc_Lbegun (fun vs H Q E h => ?_) (fun cdv A outer s H vs Q E hr h => ?_)
  · obtain ⟨m, R, P, rfl, hm, hO, k⟩ := h; rfl
  · obtain ⟨m, R, P, rfl, hm, hO, k⟩ := h
    refine ⟨_, (pss_cons (ps_set (i := 1) sc_Lbegun.nd rfl (Or.inl rfl) (pe_op op_cat (pe_op op_rep (pe_lst (pa_cons pe_int pa_nil)) pe_int) (pe_op op_rep (pe_lst (pa_cons pe_non pa_nil)) (pe_op op_sub (pv 0) pe_int))))
        (pss_one (ps_ret (pe_lst (pa_cons (pe_listRg rfl rfl T.m_list (prg_1 rfl T.m_range pe_int)) (pa_cons (pe_listRg rfl rfl T.m_list (prg_1 rfl T.m_range pe_int)) (pa_cons (pe_listRg rfl rfl T.m_list (prg_2 rfl T.m_range pe_int (pv 0))) (pa_cons (pe_lst pa_nil) (pa_cons (pv 1) pa_nil))))))))), ?_⟩
    clear hr
    have hmi : 9 ≤ (m : Int) ∧ (m : Int) ≤ 48 := by omega
    have szr : ([V.non] : List V).length * ((m : Int) - 8).toNat ≤ sizeLine := size_le (by simp; omega)
    have szc : (List.replicate (8 : Int).toNat [V.int 0]).flatten.length + (List.replicate ((m : Int) - 8).toNat [V.non]).flatten.length ≤ sizeLine := size_le (by simp; omega)
    simp only [on, List.cons_append, List.nil_append] at k
    walk_at "go"
    apply k
    walk_at "fin"
    · exact rgV_8 m (by omega)
    · have e : ((m : Int) - 8).toNat = m - 8 := by omega
      rw [e, List.flatten_replicate_singleton, List.flatten_replicate_singleton]
      show _ = (List.replicate 8 (some (0 : Int)) ++ List.replicate (m - 8) none).map oV
      rw [List.map_append, List.map_replicate, List.map_replicate]
      rfl
def sp_Llent (K : PySem.W.Frag) : Sp := fun vs H Q _ => ∃ (x n o f l c : Addr) (S : RS) (m w : Nat) (new : Int) (fr : List Int) (R : List (Addr × Ob)) (P : List Pf), vs = [.ref x, .int (w : Int)] ∧ Own K H (on x n o f l c S ++ R) P ∧ Ok S m ∧ w < 8 ∧ S.fr = new :: fr ∧ ∀ (t : Addr) (H' : Hp), Own K H' (on x n o f l c ⟨S.nm.set w new, S.om, fr, S.ld ++ [((w : Int), new, S.nm.getD w 0)], S.cl⟩ ++ R) (.tup t [.int new, .int (S.nm.getD w 0)] :: P) → Q (.ref t) H'
theorem ok_Llent (T : Txt K mg) : FnOk P w K mg base CX0 1 T.f_Llent T.fd_Llent ["_law_own", "_law_which"] (sp_Llent K) := by
  refine T.F_Llent.ok sc_Llent (fun vs H Q E h => ?_) (fun cdv A outer s H vs Q E hr h => ?_)
  · obtain ⟨x, n, o, f, l, c, S, m, w, new, fr, R, P, rfl, hO, hk, hw, hf, k⟩ := h; rfl
  · obtain ⟨x, n, o, f, l, c, S, m, w, new, fr, R, P, rfl, hO, hk, hw, hf, k⟩ := h
    refine ⟨_, (pss_cons (ps_par (i := 2) (j := 3) rfl sc_Llent.nd rfl rfl (by decide) rfl rfl (pa_cons (pe_bm PySem.F.plainAttrs_list PySem.F.slot_list_pop PySem.F.type_list_pop mt_popAt (pe_ix ix_list (pv 0) pe_int (fun _ _ => rfl)) (pa_cons pe_int pa_nil)) (pa_cons (pe_ix ix_list (pe_ix ix_list (pv 0) pe_int (fun _ _ => rfl)) (pv 1) (fun _ _ => rfl)) pa_nil)) (by rfl))
        (pss_cons (ps_asg (pv 2) (pg_sub (pe_ix ix_list (pv 0) pe_int (fun _ _ => rfl)) (pv 1) set_list))
        (pss_cons (ps_expr (pe_bm PySem.F.plainAttrs_list PySem.F.slot_list_append PySem.F.type_list_append mt_append (pe_ix ix_list (pv 0) pe_int (fun _ _ => rfl)) (pa_cons (pe_tup (pa_cons (pv 1) (pa_cons (pv 2) (pa_cons (pv 3) pa_nil)))) pa_nil)))
        (pss_one (ps_ret (pe_tup (pa_cons (pv 2) (pa_cons (pv 3) pa_nil)))))))), ?_⟩
    clear hr
    have hwi : 0 ≤ (w : Int) ∧ (w : Int) < 8 := by omega
    have aw := atW (ws := S.nm) (i := w) (by rw [hk.nm]; exact hw)
    have iw := ixW (ws := S.nm.map V.int) (i := w) (by simp [hk.nm]; exact hw)
    have b1 := hk.fl
    have b2 := hk.mb
    obtain ⟨nm, om, fr0, ld, cl⟩ := S
    dsimp only at hf aw iw b1
    subst hf
    have hF := hO
    simp only [on, List.cons_append, List.nil_append] at hO k
    obtain ⟨lv, o1⟩ := hO.openL (a := l) (by walk_at "mem")
    replace hO := o1 _ (by walk_at "setat")
    have hll := (hO.pdp (vs := lv) (by walk_at "mem")).len
    rw [List.length_map] at hll
    clear o1
    have b0 : atI [V.ref n, V.ref o, V.ref f, V.ref l, V.ref c] 0 = some (V.ref n) := rfl
    have b1 : atI [V.ref n, V.ref o, V.ref f, V.ref l, V.ref c] 1 = some (V.ref o) := rfl
    have b2 : atI [V.ref n, V.ref o, V.ref f, V.ref l, V.ref c] 2 = some (V.ref f) := rfl
    have b3 : atI [V.ref n, V.ref o, V.ref f, V.ref l, V.ref c] 3 = some (V.ref l) := rfl
    have b4 : atI [V.ref n, V.ref o, V.ref f, V.ref l, V.ref c] 4 = some (V.ref c) := rfl
    have szl : lv.length < sizeLine := size_lt (by omega)
    have si : seqIndex? 0 ((new :: fr).map V.int).length = some 0 := si0
    have g0 : ((new :: fr).map V.int)[0]? = some (.int new) := rfl
    simp only [List.map_append, List.map_cons, List.map_nil] at k
    walk_at "go"
    apply k
    walk_at "fin"
def sp_Ltold (K : PySem.W.Frag) : Sp := fun vs H Q _ => ∃ (x n o f l c : Addr) (S : RS)  (R : List (Addr × Ob)) (P : List Pf), vs = [.ref x] ∧ Own K H (on x n o f l c S ++ R) P ∧ ∀ (t : Addr) (ws : List V) (H' : Hp) (P' : List Pf), Ps P P' → Own K H' (on x n o f l c S ++ R) (.tup t ws :: .dp [.ref t] [tdD S] :: P') → Q (.ref t) H'
theorem ok_Ltold (T : Txt K mg) : FnOk P w K mg base CX0 1 T.f_Ltold T.fd_Ltold ["_law_own"] (sp_Ltold K) := by
  refine T.F_Ltold.ok sc_Ltold (fun vs H Q E h => ?_) (fun cdv A outer s H vs Q E hr h => ?_)
  · obtain ⟨x, n, o, f, l, c, S, R, P, rfl, hO, k⟩ := h; rfl
  · obtain ⟨x, n, o, f, l, c, S, R, P, rfl, hO, k⟩ := h
    refine ⟨_, (pss_one (ps_ret (pe_tup (pa_cons (pe_callTy call_tuple_of (by rfl) T.m_tuple (by decide +kernel) (pa_cons (pe_ix ix_list (pv 0) pe_int (fun _ _ => rfl)) pa_nil)) (pa_cons (pe_callTy call_tuple_of (by rfl) T.m_tuple (by decide +kernel) (pa_cons (pe_ix ix_list (pv 0) pe_int (fun _ _ => rfl)) pa_nil)) (pa_cons (pe_callTy call_tuple_of (by rfl) T.m_tuple (by decide +kernel) (pa_cons (pe_ix ix_list (pv 0) pe_int (fun _ _ => rfl)) pa_nil)) (pa_cons (pe_callTy call_tuple_of (by rfl) T.m_tuple (by decide +kernel) (pa_cons (pe_ix ix_list (pv 0) pe_int (fun _ _ => rfl)) pa_nil)) (pa_cons (pe_callTy call_tuple_of (by rfl) T.m_tuple (by decide +kernel) (pa_cons (pe_ix ix_list (pv 0) pe_int (fun _ _ => rfl)) pa_nil)) pa_nil)))))))), ?_⟩
    clear hr
    have hF := hO
    simp only [on, List.cons_append, List.nil_append] at hO k
    obtain ⟨lv, o1⟩ := hO.openL (a := l) (by walk_at "mem")
    replace hO := o1 _ (by walk_at "setat")
    have hll := (hO.pdp (vs := lv) (by walk_at "mem")).len
    rw [List.length_map] at hll
    clear o1
    have b0 : atI [V.ref n, V.ref o, V.ref f, V.ref l, V.ref c] 0 = some (V.ref n) := rfl
    have b1 : atI [V.ref n, V.ref o, V.ref f, V.ref l, V.ref c] 1 = some (V.ref o) := rfl
    have b2 : atI [V.ref n, V.ref o, V.ref f, V.ref l, V.ref c] 2 = some (V.ref f) := rfl
    have b3 : atI [V.ref n, V.ref o, V.ref f, V.ref l, V.ref c] 3 = some (V.ref l) := rfl
    have b4 : atI [V.ref n, V.ref o, V.ref f, V.ref l, V.ref c] 4 = some (V.ref c) := rfl
    walk_at "go"
    refine k _ _ _ _ ?_ ((hO.dv1 (d := tdD S) ?_).sub ?_ (Ps.cons (List.mem_cons_of_mem _ List.mem_cons_self) Ps.refl))
    · walk_at "ps"
    · refine Dv1.tup (by walk_at "mem") (.cons (Dv1.tup (by walk_at "mem") (Dv.ints _)) (.cons (Dv1.tup (by walk_at "mem") (Dv.ints _)) (.cons (Dv1.tup (by walk_at "mem") (Dv.ints _)) (.cons (Dv1.tup (by walk_at "mem") (Dv.of (by walk_at "mem"))) (.cons (Dv1.tup (by walk_at "mem") (Dv.os _)) .nil)))))
    · walk_at "sbL"
end
end K67

set_option Elab.async false
set_option linter.all false
set_option maxRecDepth 100000
set_option maxHeartbeats 8000000

namespace K67
open PySem PySem.Spec PyProof.Rows L2 Hx 
local macro_rules | `(tactic| walk_at "sm") => `(tactic| repeat' (first | assumption | apply Hx.Same.upd | exact L2.Same.refl _ | apply same_trans'))
local macro_rules | `(tactic| walk_at "hp") => `(tactic| repeat' (first | assumption | exact upd_same | apply old_upd | apply same_at))
local macro_rules | `(tactic| walk_at "rd") => `(tactic| repeat' (first | rfl | apply Exists.intro | apply And.intro | refine iteT ?_ | refine iteF ?_ | exact upd_same | exact SqL.of (by assumption) | exact SqL.of upd_same | exact SqT.of upd_same | exact SqT.of (by assumption) | ((with_reducible show (_ : Int) < _); omega) | ((with_reducible show (_ : Int) ≤ _); omega) | (show (_ : Prop); assumption) | exact Or.inl ⟨_, by assumption, rfl⟩ | exact Or.inl ⟨rfl, _, SqL.of (by assumption)⟩ | exact Or.inl ⟨rfl, _, SqL.of upd_same⟩ | apply old_upd | apply Hx.SqL.new | apply tyl_new | apply Pot.new | exact same_at (by assumption) (by assumption) | exact Or.inl (SqL.of (by assumption)) | exact Or.inl (by assumption) | exact Or.inl (SqL.of upd_same) | exact size_le (Nat.le_of_ble_eq_true rfl) | exact Nat.le_of_ble_eq_true rfl | exact True.intro | exact Or.inl rfl | exact Or.inr rfl | (show (_ : Prop); omega) | (show (_ : Prop); dsimp only; omega) | exact mulw64 (by omega) (by omega) | exact mulw64 (by (try dsimp only); omega) (by (try dsimp only); omega)))
set_option hygiene false in
local macro_rules | `(tactic| walk_at "fl") => `(tactic| simp only [pu_Renamer_new_map, pi_Renamer_new_map, pu_Renamer_old_map, pi_Renamer_old_map, pu_Renamer_free, pi_Renamer_free, pu_Renamer_lendings, pi_Renamer_lendings, pu_Renamer_cells, pi_Renamer_cells] at hO)
local macro_rules | `(tactic| walk_at "mem") => `(tactic| ((repeat (first | exact List.Mem.head _ | apply List.Mem.tail | fail)); done))
local macro_rules | `(tactic| walk_at "setat") => `(tactic| ((repeat (first | (with_reducible exact At.head) | (with_reducible apply At.tail) | (with_reducible apply At.app) | fail)); done))
set_option hygiene false in
local macro_rules | `(tactic| walk_at "dv") => `(tactic| ((repeat' (first | exact Dv.nil | exact Dv.of (by walk_at "mem") | exact Dv.ints _ | exact Dv1.of (by walk_at "mem") | exact Dv1.int _ | exact Dv1.non | exact Dv1.bl _ | exact Dv1.str _ | (with_reducible apply Dv.cons) | refine Dv1.tup (by walk_at "mem") ?_ | refine Dv1.lst (by walk_at "mem") ?_ | (with_reducible apply Dv.app) | fail)); done))
local macro_rules | `(tactic| walk_at "ft") => `(tactic| (first | (with_reducible exact Ft.refl) | ((with_reducible apply Ft.toL); focus walk_at "dv") | ((with_reducible apply Ft.toS); focus assumption) | (with_reducible apply Ft.lst) | (with_reducible apply Ft.Le) | (with_reducible apply Ft.dK) | (with_reducible apply Ft.De) | (with_reducible apply Ft.ins) | (with_reducible apply Ft.toL) | (with_reducible apply Ft.toS) | (with_reducible apply Ft.toD) | fail))
local macro_rules | `(tactic| walk_at "sbL") => `(tactic| repeat' (first | (with_reducible exact Sb.refl _) | exact Sb.nil | (with_reducible apply Sb.cons) | (with_reducible apply Sb.app) | (with_reducible exact Pk.one) | (with_reducible exact Pk.here) | (with_reducible exact Pk.all) | (with_reducible apply Pk.skip1) | (with_reducible apply Pk.skipB) | (with_reducible apply Sb.skip) | (with_reducible apply Sb.skipB) | ((with_reducible show Ft _ _ _ _); walk_at "ft") | ((with_reducible show (_ : List _) = _); (first | rfl | (simp [List.map_set, List.map_append]; done) | fail)) | fail))
local macro_rules | `(tactic| walk_at "sb") => `(tactic| ((walk_at "sbL"); done))
local macro_rules | `(tactic| walk_at "ps") => `(tactic| ((repeat' (first | (with_reducible exact Ps.refl) | exact Ps.nil | (with_reducible apply Ps.cons) | exact List.Mem.head _ | apply List.Mem.tail | (with_reducible apply Ps.skip) | fail)); done))
set_option hygiene false in
local macro_rules | `(tactic| walk_at "at") => `(tactic| first | assumption | exact Own.raw hO (by walk_at "mem") | exact Own.ptup hO (by walk_at "mem") | exact Own.plst hO (by walk_at "mem") | fail)
set_option hygiene false in
local macro_rules | `(tactic| walk_at "st") => `(tactic| (rw [upd_mkO hO]; generalize e : updX _ _ _ = H1; (first | ((apply Own.cset hO e); (focus walk_at "setat"); (try clear hO e); intro hO) | ((apply Own.cnewT hO e); (focus assumption); (try clear hO e); intro hO) | ((apply Own.cnew hO e); (focus assumption); (try clear hO e); intro hO) | fail)))
set_option hygiene false in
local macro_rules | `(tactic| walk_at "mk") => `(tactic| (intro p1 p2 f1 f2 f3; rw [upd_mkO hO]; generalize e : upd (updX _ _ _) _ _ = H1; apply Own.cmake hO f1 f2 f3 e; (try clear hO e); intro hO))
set_option hygiene false in
local macro_rules | `(tactic| walk_at "own") => `(tactic| (first | ((apply Own.sub hO); (focus walk_at "sb"); (focus walk_at "ps")) | ((apply Own.sub hF); (focus walk_at "sb"); (focus walk_at "ps")) | fail))
set_option hygiene false in
local macro_rules | `(tactic| walk_at "fin") => `(tactic| (refine Own.sub hO ?_ (by walk_at "ps"); walk_at "sbL"))
set_option hygiene false in
local macro_rules | `(tactic| walk_at "g1") => `(tactic| (first
 | ((with_reducible show (_ : Option HO) = _); walk_at "at")
 | ((with_reducible show (_ : Int) < _); omega) | ((with_reducible show (_ : Int) ≤ _); omega)
 | ((with_reducible show (_ : Nat) < _); (first | assumption | exact Nat.le_of_ble_eq_true rfl | exact size_lt (Nat.le_of_ble_eq_true rfl) | omega | (simp; done) | (simp; omega) | fail))
 | ((with_reducible show (_ : Nat) ≤ _); (first | assumption | exact Nat.le_of_ble_eq_true rfl | exact size_le (Nat.le_of_ble_eq_true rfl) | omega | (simp; done) | (simp; omega) | fail))
 | ((with_reducible show Own _ _ _ _); (first | walk_at "own" | (walk_at "st"; walk_at "own") | fail))
 | ((with_reducible show SqL _ _ _ _); (first | assumption | exact SqL.of (by walk_at "at") | fail))
 | ((with_reducible show SqT _ _ _ _); (first | assumption | exact hO.psq (by walk_at "mem") | exact SqT.of (by walk_at "at") | fail))
  | ((with_reducible show Cls _ _); exact Txt.cl_Renamer T) | ((with_reducible show NoAttr _ _ _); exact Txt.n_Renamer_new_map T) | (with_reducible exact gt_Renamer_new_map) | ((with_reducible show NoAttr _ _ _); exact Txt.n_Renamer_old_map T) | (with_reducible exact gt_Renamer_old_map) | ((with_reducible show NoAttr _ _ _); exact Txt.n_Renamer_free T) | (with_reducible exact gt_Renamer_free) | ((with_reducible show NoAttr _ _ _); exact Txt.n_Renamer_lendings T) | (with_reducible exact gt_Renamer_lendings) | ((with_reducible show NoAttr _ _ _); exact Txt.n_Renamer_cells T) | (with_reducible exact gt_Renamer_cells)
 | ((with_reducible show SqL _ _ _ _ ∨ SqT _ _ _ _); (first | exact Or.inl (SqL.of (by walk_at "at")) | exact Or.inr (SqT.of (by walk_at "at")) | fail))
 | ((with_reducible show Dp _ _ _ _); (first | assumption | exact hO.dpL (by walk_at "mem") | exact .lst (SqL.of (by walk_at "at")) (hO.all (by walk_at "dv")) | exact hO.one (by walk_at "dv") | fail))
 | ((with_reducible show TruV _ _ _ _); (first | exact Or.inl ⟨_, SqL.of (by walk_at "at"), rfl⟩ | exact Or.inr (Or.inr ⟨_, by walk_at "at", rfl⟩) | exact Or.inr (Or.inl ⟨_, SqT.of (by walk_at "at"), rfl⟩) | fail))
 | ((with_reducible show RgOk _ _); exact RgOk.of_le (by omega) (by omega) (by omega) (by omega))
 | rfl | (with_reducible assumption) | apply And.intro | apply Exists.intro | refine iteT ?_ | refine iteF ?_
 | (walk_at "st"; (try walk_at "fl"))
 | ((with_reducible show ∀ _ : Addr, _ = none → _); (fail_if_success (with_reducible show ∀ _ : Addr, _ = none → ∃ _ : Nat → Nat → Hp → Prop, _)); intro p fp; walk_at "st")
 | (refine Or.inl ⟨SqL.of (by walk_at "at"), ?_⟩) | (refine Or.inr ⟨SqT.of (by walk_at "at"), ?_⟩) | exact Or.inl ⟨_, by walk_at "at", rfl⟩ | exact Or.inl ⟨rfl, _, SqL.of (by walk_at "at")⟩ | exact tyl_of (by walk_at "at") | exact Or.inl (SqL.of (by walk_at "at")) | exact Or.inr (SqT.of (by walk_at "at")) | exact Or.inl (by walk_at "at") | exact size_le (Nat.le_of_ble_eq_true rfl) | exact Nat.le_of_ble_eq_true rfl | exact True.intro | exact Or.inl rfl | exact Or.inr rfl | (show (_ : Prop); assumption) | (show (_ : Prop); omega) | (show (_ : Prop); dsimp only; omega) | exact mulw64 (by omega) (by omega) | exact mulw64 (by (try dsimp only); omega) (by (try dsimp only); omega) | fail))
local macro_rules | `(tactic| walk_at "go") => `(tactic| repeat walk_at "g1")

section
variable {P : Program} {w : World} {K : PySem.W.Frag} {mg : Str → Option Value} {base : Heap}
def sp_Lundone (K : PySem.W.Frag) : Sp := fun vs H Q _ => ∃ (x n o f l c : Addr) (S : RS) (ld : List Ln) (m w i : Nat) (j : Int) (R : List (Addr × Ob)) (P : List Pf), vs = [.ref x] ∧ Own K H (on x n o f l c S ++ R) P ∧ Ok S m ∧ S.ld = ld ++ [((w : Int), (i : Int), j)] ∧ ∀ (t : Addr) (H' : Hp), Own K H' (on x n o f l c ⟨S.nm.set w j, S.om, (i : Int) :: S.fr, ld, S.cl.set i none⟩ ++ R) (.tup t [.int w, .int i, .int j] :: P) → Q (.ref t) H'
theorem ok_Lundone (T : Txt K mg) : FnOk P w K mg base CX0 1 T.f_Lundone T.fd_Lundone ["_law_own"] (sp_Lundone K) := by
  refine T.F_Lundone.ok sc_Lundone (fun vs H Q E h => ?_) (fun cdv A outer s H vs Q E hr h => ?_)
  · obtain ⟨x, n, o, f, l, c, S, ld, m, w, i, j, R, P, rfl, hO, hk, hld, k⟩ := h; rfl
  · obtain ⟨x, n, o, f, l, c, S, ld, m, w, i, j, R, P, rfl, hO, hk, hld, k⟩ := h
    refine ⟨_, (pss_cons (ps_asg (pe_bm0 PySem.F.plainAttrs_list PySem.F.slot_list_pop PySem.F.type_list_pop mt_pop (pe_ix ix_list (pv 0) pe_int (fun _ _ => rfl))) (pg_tup rfl (pgs_cons (pg_name (i := 1) sc_Lundone.nd rfl (Or.inl rfl)) (pgs_cons (pg_name (i := 2) sc_Lundone.nd rfl (Or.inl rfl)) (pgs_cons (pg_name (i := 3) sc_Lundone.nd rfl (Or.inl rfl)) pgs_nil)))))
        (pss_cons (ps_asg (pe_tup (pa_cons (pv 3) (pa_cons pe_non pa_nil))) (pg_tup rfl (pgs_cons (pg_sub (pe_ix ix_list (pv 0) pe_int (fun _ _ => rfl)) (pv 1) set_list) (pgs_cons (pg_sub (pe_ix ix_list (pv 0) pe_int (fun _ _ => rfl)) (pv 2) set_list) pgs_nil))))
        (pss_cons (ps_expr (pe_bm PySem.F.plainAttrs_list PySem.F.slot_list_insert PySem.F.type_list_insert mt_insert (pe_ix ix_list (pv 0) pe_int (fun _ _ => rfl)) (pa_cons pe_int (pa_cons (pv 2) pa_nil))))
        (pss_one (ps_ret (pe_tup (pa_cons (pv 1) (pa_cons (pv 2) (pa_cons (pv 3) pa_nil))))))))), ?_⟩
    clear hr
    have bl := hk.bl _ (by rw [hld]; simp : ((w : Int), (i : Int), j) ∈ S.ld)
    have b1 : 0 ≤ (w : Int) ∧ (w : Int) < 8 := bl.1
    have b2 : 0 ≤ (i : Int) ∧ (i : Int) < m := bl.2.1
    clear bl
    have lenm := hk.nm
    have lenc := hk.cl
    have iw := ixW (ws := S.nm.map V.int) (i := w) (by simp; omega)
    have ic := ixW (ws := S.cl.map oV) (i := i) (by simp; omega)
    have szf : (S.fr.map V.int).length < sizeLine := size_lt (by have := hk.fl; have := hk.mb; simp; omega)
    have hF := hO
    simp only [on, List.cons_append, List.nil_append] at hO k
    obtain ⟨lv, o1⟩ := hO.openL (a := l) (by walk_at "mem")
    replace hO := o1 _ (by walk_at "setat")
    have hll := (hO.pdp (vs := lv) (by walk_at "mem")).len
    rw [List.length_map] at hll
    clear o1
    have b0 : atI [V.ref n, V.ref o, V.ref f, V.ref l, V.ref c] 0 = some (V.ref n) := rfl
    have b1 : atI [V.ref n, V.ref o, V.ref f, V.ref l, V.ref c] 1 = some (V.ref o) := rfl
    have b2 : atI [V.ref n, V.ref o, V.ref f, V.ref l, V.ref c] 2 = some (V.ref f) := rfl
    have b3 : atI [V.ref n, V.ref o, V.ref f, V.ref l, V.ref c] 3 = some (V.ref l) := rfl
    have b4 : atI [V.ref n, V.ref o, V.ref f, V.ref l, V.ref c] 4 = some (V.ref c) := rfl
    obtain ⟨lv0, v9, rfl⟩ : ∃ a b, lv = a ++ [b] := by
      rcases List.eq_nil_or_concat lv with h | ⟨a, b, h⟩
      · rw [h, hld] at hll; simp at hll
      · exact ⟨a, b, by rw [h, List.concat_eq_append]⟩
    rw [hld] at hll
    have hl0 : lv0.length = (ld.map lnD).length := by simp at hll; simpa using hll
    have hlp : 0 < (lv0 ++ [v9]).length := by simp
    have gl9 : (lv0 ++ [v9])[(lv0 ++ [v9]).length - 1]? = some v9 := by simp
    rw [hld, List.map_append] at hO
    replace hO := hO.dv (vs := lv0) (ds := ld.map lnD) ((Dv.of (by walk_at "mem") : Dv K _ (lv0 ++ [v9]) (ld.map lnD ++ [lnD ((w : Int), (i : Int), j)])).fst hl0)
    obtain ⟨t0, rfl, hO⟩ := hO.opn ((Dv.of (by walk_at "mem") : Dv K _ (lv0 ++ [v9]) (ld.map lnD ++ [lnD ((w : Int), (i : Int), j)])).snd hl0).hd
    walk_at "go"
    rw [List.dropLast_concat] at hO
    apply k
    walk_at "fin"
    rw [List.map_set]
    rfl
def sp_Lkept (K : PySem.W.Frag) : Sp := fun vs H Q _ => ∃ (x n o f l c : Addr) (S : RS) (ld : List Ln) (m w i j : Nat) (R : List (Addr × Ob)) (P : List Pf), vs = [.ref x] ∧ Own K H (on x n o f l c S ++ R) P ∧ Ok S m ∧ S.ld = ((w : Int), (i : Int), (j : Int)) :: ld ∧ ∀ (t : Addr) (H' : Hp), Own K H' (on x n o f l c ⟨S.nm, S.om.set w (i : Int), S.fr ++ [(j : Int)], ld, S.cl.set j none⟩ ++ R) (.tup t [.int w, .int i, .int j] :: P) → Q (.ref t) H'
theorem ok_Lkept (T : Txt K mg) : FnOk P w K mg base CX0 1 T.f_Lkept T.fd_Lkept ["_law_own"] (sp_Lkept K) := by
  refine T.F_Lkept.ok sc_Lkept (fun vs H Q E h => ?_) (fun cdv A outer s H vs Q E hr h => ?_)
  · obtain ⟨x, n, o, f, l, c, S, ld, m, w, i, j, R, P, rfl, hO, hk, hld, k⟩ := h; rfl
  · obtain ⟨x, n, o, f, l, c, S, ld, m, w, i, j, R, P, rfl, hO, hk, hld, k⟩ := h
    refine ⟨_, (pss_cons (ps_asg (pe_bm PySem.F.plainAttrs_list PySem.F.slot_list_pop PySem.F.type_list_pop mt_popAt (pe_ix ix_list (pv 0) pe_int (fun _ _ => rfl)) (pa_cons pe_int pa_nil)) (pg_tup rfl (pgs_cons (pg_name (i := 1) sc_Lkept.nd rfl (Or.inl rfl)) (pgs_cons (pg_name (i := 2) sc_Lkept.nd rfl (Or.inl rfl)) (pgs_cons (pg_name (i := 3) sc_Lkept.nd rfl (Or.inl rfl)) pgs_nil)))))
        (pss_cons (ps_asg (pe_tup (pa_cons (pv 2) (pa_cons pe_non pa_nil))) (pg_tup rfl (pgs_cons (pg_sub (pe_ix ix_list (pv 0) pe_int (fun _ _ => rfl)) (pv 1) set_list) (pgs_cons (pg_sub (pe_ix ix_list (pv 0) pe_int (fun _ _ => rfl)) (pv 3) set_list) pgs_nil))))
        (pss_cons (ps_expr (pe_bm PySem.F.plainAttrs_list PySem.F.slot_list_append PySem.F.type_list_append mt_append (pe_ix ix_list (pv 0) pe_int (fun _ _ => rfl)) (pa_cons (pv 3) pa_nil)))
        (pss_one (ps_ret (pe_tup (pa_cons (pv 1) (pa_cons (pv 2) (pa_cons (pv 3) pa_nil))))))))), ?_⟩
    clear hr
    have bl := hk.bl _ (by rw [hld]; simp : ((w : Int), (i : Int), (j : Int)) ∈ S.ld)
    have b1 : 0 ≤ (w : Int) ∧ (w : Int) < 8 := bl.1
    have b3 : 0 ≤ (j : Int) ∧ (j : Int) < m := bl.2.2
    clear bl
    have lenm := hk.om
    have lenc := hk.cl
    have iw := ixW (ws := S.om.map V.int) (i := w) (by simp; omega)
    have ic := ixW (ws := S.cl.map oV) (i := j) (by simp; omega)
    have szf : (S.fr.map V.int).length < sizeLine := size_lt (by have := hk.fl; have := hk.mb; simp; omega)
    have hF := hO
    simp only [on, List.cons_append, List.nil_append] at hO k
    obtain ⟨lv, o1⟩ := hO.openL (a := l) (by walk_at "mem")
    replace hO := o1 _ (by walk_at "setat")
    have hll := (hO.pdp (vs := lv) (by walk_at "mem")).len
    rw [List.length_map] at hll
    clear o1
    have b0 : atI [V.ref n, V.ref o, V.ref f, V.ref l, V.ref c] 0 = some (V.ref n) := rfl
    have b1 : atI [V.ref n, V.ref o, V.ref f, V.ref l, V.ref c] 1 = some (V.ref o) := rfl
    have b2 : atI [V.ref n, V.ref o, V.ref f, V.ref l, V.ref c] 2 = some (V.ref f) := rfl
    have b3 : atI [V.ref n, V.ref o, V.ref f, V.ref l, V.ref c] 3 = some (V.ref l) := rfl
    have b4 : atI [V.ref n, V.ref o, V.ref f, V.ref l, V.ref c] 4 = some (V.ref c) := rfl
    rw [hld] at hll
    obtain ⟨v9, lv0, rfl⟩ : ∃ a b, lv = a :: b := by
      cases lv with
      | nil => simp at hll
      | cons a b => exact ⟨a, b, rfl⟩
    have si : seqIndex? 0 (v9 :: lv0).length = some 0 := si0
    have g0 : (v9 :: lv0)[0]? = some v9 := rfl
    rw [hld, List.map_cons] at hO
    replace hO := hO.dv (vs := lv0) (ds := ld.map lnD) (Dv.of (by walk_at "mem") : Dv K _ (v9 :: lv0) (lnD ((w : Int), (i : Int), (j : Int)) :: ld.map lnD)).tl
    obtain ⟨t0, rfl, hO⟩ := hO.opn (Dv.of (by walk_at "mem") : Dv K _ (v9 :: lv0) (lnD ((w : Int), (i : Int), (j : Int)) :: ld.map lnD)).hd
    walk_at "go"
    apply k
    walk_at "fin"
    · rw [List.map_set]
      rfl
    · rw [List.map_append]
      rfl
end
end K67

set_option Elab.async false
set_option linter.all false
set_option maxRecDepth 100000
set_option maxHeartbeats 8000000

namespace K67
open PySem PySem.Spec PyProof.Rows L2 Hx 
local macro_rules | `(tactic| walk_at "sm") => `(tactic| repeat' (first | assumption | apply Hx.Same.upd | exact L2.Same.refl _ | apply same_trans'))
local macro_rules | `(tactic| walk_at "hp") => `(tactic| repeat' (first | assumption | exact upd_same | apply old_upd | apply same_at))
local macro_rules | `(tactic| walk_at "rd") => `(tactic| repeat' (first | rfl | apply Exists.intro | apply And.intro | refine iteT ?_ | refine iteF ?_ | exact upd_same | exact SqL.of (by assumption) | exact SqL.of upd_same | exact SqT.of upd_same | exact SqT.of (by assumption) | ((with_reducible show (_ : Int) < _); omega) | ((with_reducible show (_ : Int) ≤ _); omega) | (show (_ : Prop); assumption) | exact Or.inl ⟨_, by assumption, rfl⟩ | exact Or.inl ⟨rfl, _, SqL.of (by assumption)⟩ | exact Or.inl ⟨rfl, _, SqL.of upd_same⟩ | apply old_upd | apply Hx.SqL.new | apply tyl_new | apply Pot.new | exact same_at (by assumption) (by assumption) | exact Or.inl (SqL.of (by assumption)) | exact Or.inl (by assumption) | exact Or.inl (SqL.of upd_same) | exact size_le (Nat.le_of_ble_eq_true rfl) | exact Nat.le_of_ble_eq_true rfl | exact True.intro | exact Or.inl rfl | exact Or.inr rfl | (show (_ : Prop); omega) | (show (_ : Prop); dsimp only; omega) | exact mulw64 (by omega) (by omega) | exact mulw64 (by (try dsimp only); omega) (by (try dsimp only); omega)))
set_option hygiene false in
local macro_rules | `(tactic| walk_at "fl") => `(tactic| simp only [pu_Renamer_new_map, pi_Renamer_new_map, pu_Renamer_old_map, pi_Renamer_old_map, pu_Renamer_free, pi_Renamer_free, pu_Renamer_lendings, pi_Renamer_lendings, pu_Renamer_cells, pi_Renamer_cells] at hO)
local macro_rules | `(tactic| walk_at "mem") => `(tactic| ((repeat (first | exact List.Mem.head _ | apply List.Mem.tail | fail)); done))
local macro_rules | `(tactic| walk_at "setat") => `(tactic| ((repeat (first | (with_reducible exact At.head) | (with_reducible apply At.tail) | (with_reducible apply At.app) | fail)); done))
set_option hygiene false in
local macro_rules | `(tactic| walk_at "dv") => `(tactic| ((repeat' (first | exact Dv.nil | exact Dv.of (by walk_at "mem") | exact Dv.ints _ | exact Dv1.of (by walk_at "mem") | exact Dv1.int _ | exact Dv1.non | exact Dv1.bl _ | exact Dv1.str _ | (with_reducible apply Dv.cons) | refine Dv1.tup (by walk_at "mem") ?_ | refine Dv1.lst (by walk_at "mem") ?_ | (with_reducible apply Dv.app) | fail)); done))
local macro_rules | `(tactic| walk_at "ft") => `(tactic| (first | (with_reducible exact Ft.refl) | ((with_reducible apply Ft.toL); focus walk_at "dv") | ((with_reducible apply Ft.toS); focus assumption) | (with_reducible apply Ft.lst) | (with_reducible apply Ft.Le) | (with_reducible apply Ft.dK) | (with_reducible apply Ft.De) | (with_reducible apply Ft.ins) | (with_reducible apply Ft.toL) | (with_reducible apply Ft.toS) | (with_reducible apply Ft.toD) | fail))
local macro_rules | `(tactic| walk_at "sbL") => `(tactic| repeat' (first | (with_reducible exact Sb.refl _) | exact Sb.nil | (with_reducible apply Sb.cons) | (with_reducible apply Sb.app) | (with_reducible exact Pk.one) | (with_reducible exact Pk.here) | (with_reducible exact Pk.all) | (with_reducible apply Pk.skip1) | (with_reducible apply Pk.skipB) | (with_reducible apply Sb.skip) | (with_reducible apply Sb.skipB) | ((with_reducible show Ft _ _ _ _); walk_at "ft") | ((with_reducible show (_ : List _) = _); (first | rfl | (simp [List.map_set, List.map_append]; done) | fail)) | fail))
local macro_rules | `(tactic| walk_at "sb") => `(tactic| ((walk_at "sbL"); done))
local macro_rules | `(tactic| walk_at "ps") => `(tactic| ((repeat' (first | (with_reducible exact Ps.refl) | exact Ps.nil | (with_reducible apply Ps.cons) | exact List.Mem.head _ | apply List.Mem.tail | (with_reducible apply Ps.skip) | fail)); done))
set_option hygiene false in
local macro_rules | `(tactic| walk_at "at") => `(tactic| first | assumption | exact Own.raw hO (by walk_at "mem") | exact Own.ptup hO (by walk_at "mem") | exact Own.plst hO (by walk_at "mem") | fail)
set_option hygiene false in
local macro_rules | `(tactic| walk_at "st") => `(tactic| (rw [upd_mkO hO]; generalize e : updX _ _ _ = H1; (first | ((apply Own.cset hO e); (focus walk_at "setat"); (try clear hO e); intro hO) | ((apply Own.cnewT hO e); (focus assumption); (try clear hO e); intro hO) | ((apply Own.cnew hO e); (focus assumption); (try clear hO e); intro hO) | fail)))
set_option hygiene false in
local macro_rules | `(tactic| walk_at "mk") => `(tactic| (intro p1 p2 f1 f2 f3; rw [upd_mkO hO]; generalize e : upd (updX _ _ _) _ _ = H1; apply Own.cmake hO f1 f2 f3 e; (try clear hO e); intro hO))
set_option hygiene false in
local macro_rules | `(tactic| walk_at "own") => `(tactic| (first | ((apply Own.sub hO); (focus walk_at "sb"); (focus walk_at "ps")) | ((apply Own.sub hF); (focus walk_at "sb"); (focus walk_at "ps")) | fail))
set_option hygiene false in
local macro_rules | `(tactic| walk_at "fin") => `(tactic| (refine Own.sub hO ?_ (by walk_at "ps"); walk_at "sbL"))
set_option hygiene false in
local macro_rules | `(tactic| walk_at "g1") => `(tactic| (first
 | ((with_reducible show (_ : Option HO) = _); walk_at "at")
 | ((with_reducible show (_ : Int) < _); omega) | ((with_reducible show (_ : Int) ≤ _); omega)
 | ((with_reducible show (_ : Nat) < _); (first | assumption | exact Nat.le_of_ble_eq_true rfl | exact size_lt (Nat.le_of_ble_eq_true rfl) | omega | (simp; done) | (simp; omega) | fail))
 | ((with_reducible show (_ : Nat) ≤ _); (first | assumption | exact Nat.le_of_ble_eq_true rfl | exact size_le (Nat.le_of_ble_eq_true rfl) | omega | (simp; done) | (simp; omega) | fail))
 | ((with_reducible show Own _ _ _ _); (first | walk_at "own" | (walk_at "st"; walk_at "own") | fail))
 | ((with_reducible show SqL _ _ _ _); (first | assumption | exact SqL.of (by walk_at "at") | fail))
 | ((with_reducible show SqT _ _ _ _); (first | assumption | exact hO.psq (by walk_at "mem") | exact SqT.of (by walk_at "at") | fail))
  | ((with_reducible show Cls _ _); exact Txt.cl_Renamer T) | ((with_reducible show NoAttr _ _ _); exact Txt.n_Renamer_new_map T) | (with_reducible exact gt_Renamer_new_map) | ((with_reducible show NoAttr _ _ _); exact Txt.n_Renamer_old_map T) | (with_reducible exact gt_Renamer_old_map) | ((with_reducible show NoAttr _ _ _); exact Txt.n_Renamer_free T) | (with_reducible exact gt_Renamer_free) | ((with_reducible show NoAttr _ _ _); exact Txt.n_Renamer_lendings T) | (with_reducible exact gt_Renamer_lendings) | ((with_reducible show NoAttr _ _ _); exact Txt.n_Renamer_cells T) | (with_reducible exact gt_Renamer_cells)
 | ((with_reducible show SqL _ _ _ _ ∨ SqT _ _ _ _); (first | exact Or.inl (SqL.of (by walk_at "at")) | exact Or.inr (SqT.of (by walk_at "at")) | fail))
 | ((with_reducible show Dp _ _ _ _); (first | assumption | exact hO.dpL (by walk_at "mem") | exact .lst (SqL.of (by walk_at "at")) (hO.all (by walk_at "dv")) | exact hO.one (by walk_at "dv") | fail))
 | ((with_reducible show TruV _ _ _ _); (first | exact Or.inl ⟨_, SqL.of (by walk_at "at"), rfl⟩ | exact Or.inr (Or.inr ⟨_, by walk_at "at", rfl⟩) | exact Or.inr (Or.inl ⟨_, SqT.of (by walk_at "at"), rfl⟩) | fail))
 | ((with_reducible show RgOk _ _); exact RgOk.of_le (by omega) (by omega) (by omega) (by omega))
 | rfl | (with_reducible assumption) | apply And.intro | apply Exists.intro | refine iteT ?_ | refine iteF ?_
 | (walk_at "st"; (try walk_at "fl"))
 | ((with_reducible show ∀ _ : Addr, _ = none → _); (fail_if_success (with_reducible show ∀ _ : Addr, _ = none → ∃ _ : Nat → Nat → Hp → Prop, _)); intro p fp; walk_at "st")
 | (refine Or.inl ⟨SqL.of (by walk_at "at"), ?_⟩) | (refine Or.inr ⟨SqT.of (by walk_at "at"), ?_⟩) | exact Or.inl ⟨_, by walk_at "at", rfl⟩ | exact Or.inl ⟨rfl, _, SqL.of (by walk_at "at")⟩ | exact tyl_of (by walk_at "at") | exact Or.inl (SqL.of (by walk_at "at")) | exact Or.inr (SqT.of (by walk_at "at")) | exact Or.inl (by walk_at "at") | exact size_le (Nat.le_of_ble_eq_true rfl) | exact Nat.le_of_ble_eq_true rfl | exact True.intro | exact Or.inl rfl | exact Or.inr rfl | (show (_ : Prop); assumption) | (show (_ : Prop); omega) | (show (_ : Prop); dsimp only; omega) | exact mulw64 (by omega) (by omega) | exact mulw64 (by (try dsimp only); omega) (by (try dsimp only); omega) | fail))
local macro_rules | `(tactic| walk_at "go") => `(tactic| repeat walk_at "g1")

section
variable {P : Program} {w : World} {K : PySem.W.Frag} {mg : Str → Option Value} {base : Heap}
def BV (cl : List (Option Int)) : Prop := ∀ v, some v ∈ cl → 0 ≤ v ∧ v < 65536
theorem BV.set {cl : List (Option Int)} (h : BV cl) {i : Nat} {v : Int} (hv : 0 ≤ v ∧ v < 65536) : BV (cl.set i (some v)) := fun u hu => by
  rcases List.mem_or_eq_of_mem_set hu with h2 | h2
  · exact h u h2
  · cases h2; exact hv
theorem BV.off {cl : List (Option Int)} (h : BV cl) {i : Nat} : BV (cl.set i none) := fun u hu => by
  rcases List.mem_or_eq_of_mem_set hu with h2 | h2
  · exact h u h2
  · cases h2
def sp_Ldone (K : PySem.W.Frag) (C : Addr) : Sp := fun vs H Q _ => ∃ (x dx n o f l c x2 n2 o2 f2 l2 c2 dl : Addr) (S : RS) (m : Nat) (d : Deed) (words : List Int) (ws : List Wr) (R : List (Addr × Ob)) (P : List Pf), vs = [.ref x, .ref x2, .ref dl] ∧
  Own K H (rn C x dx n o f l c S ++ (on x2 n2 o2 f2 l2 c2 S ++ ((dl, .raw (.lst (dV d))) :: R))) P ∧ Inv S m words ws ∧ BV S.cl ∧ d.ok m ws ∧
  ∀ (S' : RS) (H' : Hp) (P' : List Pf), Inv S' m (stepW words ws d).1 (stepW words ws d).2 → BV S'.cl → Ps P P' → Own K H' (rn C x dx n o f l c S' ++ (on x2 n2 o2 f2 l2 c2 S' ++ R)) P' → Q (.bl true) H'
theorem ok_Ldone (T : Txt K mg) : FnOk P w K mg base CX0 7 T.f_Ldone T.fd_Ldone ["_law_renamer", "_law_own", "_law_deed_here"] (sp_Ldone K T.C_Renamer) := by
  have G_Llent := ok_Llent (P := P) (w := w) (base := base) T
  have G_Renamer_lent := ok_Renamer_lent (P := P) (w := w) (base := base) T
  have G_Renamer_put := ok_Renamer_put (P := P) (w := w) (base := base) T
  have G_Lundone := ok_Lundone (P := P) (w := w) (base := base) T
  have G_Renamer_undone := ok_Renamer_undone (P := P) (w := w) (base := base) T
  have G_Lkept := ok_Lkept (P := P) (w := w) (base := base) T
  have G_Renamer_kept := ok_Renamer_kept (P := P) (w := w) (base := base) T
  have G_Renamer_written := ok_Renamer_written (P := P) (w := w) (base := base) T
  have G_Renamer_place_of := ok_Renamer_place_of (P := P) (w := w) (base := base) T
  refine T.F_Ldone.ok sc_Ldone (fun vs H Q E h => ?_) (fun cdv A outer s H vs Q E hr h => ?_)
  · obtain ⟨x, dx, n, o, f, l, c, x2, n2, o2, f2, l2, c2, dl, S, m, d, words, ws, R, P, rfl, hO, hI, hB, hd, k⟩ := h; rfl
  · obtain ⟨x, dx, n, o, f, l, c, x2, n2, o2, f2, l2, c2, dl, S, m, d, words, ws, R, P, rfl, hO, hI, hB, hd, k⟩ := h
    refine ⟨_, (pss_cons (ps_if (pt_cmpR op_eq (pe_ix ix_list (pv 2) pe_int (fun _ _ => rfl)) pe_str (nomark _))
          (pss_cons (ps_set (i := 3) sc_Ldone.nd rfl (Or.inl rfl) (pe_call G_Llent (hr.mono (by decide)) rfl T.g_Llent T.F_Llent.kp T.b_Llent .nil pass0 (pa_cons (pv 1) (pa_cons (pe_ix ix_list (pv 2) pe_int (fun _ _ => rfl)) pa_nil))))
          (pss_one (ps_ret (pe_cmpR (op_eqS hr.units) (pe_meth (pv 0) T.cl_Renamer T.me_Renamer_lent G_Renamer_lent (hr.mono (by decide)) T.b_Renamer_lent .nil pass0 (pa_cons (pe_ix ix_list (pv 2) pe_int (fun _ _ => rfl)) pa_nil)) (pv 3) (nomark _)))))
          pss_nil)
        (pss_cons (ps_if (pt_cmpR op_eq (pe_ix ix_list (pv 2) pe_int (fun _ _ => rfl)) pe_str (nomark _))
          (pss_cons (ps_set (i := 4) sc_Ldone.nd rfl (Or.inl rfl) (pe_ix ix_tup (pe_ix ix_list (pe_ix ix_list (pv 1) pe_int (fun _ _ => rfl)) (pe_ix ix_list (pv 2) pe_int (fun _ _ => rfl)) (fun _ _ => rfl)) pe_int (fun _ _ => rfl)))
          (pss_cons (ps_asg (pe_ix ix_list (pv 2) pe_int (fun _ _ => rfl)) (pg_sub (pe_ix ix_list (pv 1) pe_int (fun _ _ => rfl)) (pv 4) set_list))
          (pss_one (ps_ret (pe_cmpR op_isN (pe_meth (pv 0) T.cl_Renamer T.me_Renamer_put G_Renamer_put (hr.mono (by decide)) T.b_Renamer_put .nil pass0 (pa_cons (pv 4) (pa_cons (pe_ix ix_list (pv 2) pe_int (fun _ _ => rfl)) pa_nil))) pe_non (nomark _))))))
          pss_nil)
        (pss_cons (ps_if (pt_cmpR op_eq (pe_ix ix_list (pv 2) pe_int (fun _ _ => rfl)) pe_str (nomark _))
          (pss_cons (ps_asg (pe_call G_Lundone (hr.mono (by decide)) rfl T.g_Lundone T.F_Lundone.kp T.b_Lundone .nil pass0 (pa_cons (pv 1) pa_nil)) (pg_tup rfl (pgs_cons (pg_name (i := 5) sc_Ldone.nd rfl (Or.inl rfl)) (pgs_cons (pg_name (i := 6) sc_Ldone.nd rfl (Or.inl rfl)) (pgs_cons (pg_name (i := 7) sc_Ldone.nd rfl (Or.inl rfl)) pgs_nil)))))
          (pss_one (ps_ret (pe_cmpR op_isN (pe_methKA (pv 0) T.cl_Renamer T.me_Renamer_undone G_Renamer_undone (hr.mono (by decide)) T.kp_Renamer_undone_1_210 pass0 (pk_cons (pv 7) (pk_cons (pv 6) (pk_cons (pv 5) pk_nil)))) pe_non (nomark _)))))
          pss_nil)
        (pss_cons (ps_if (pt_cmpR op_eq (pe_ix ix_list (pv 2) pe_int (fun _ _ => rfl)) pe_str (nomark _))
          (pss_cons (ps_asg (pe_call G_Lkept (hr.mono (by decide)) rfl T.g_Lkept T.F_Lkept.kp T.b_Lkept .nil pass0 (pa_cons (pv 1) pa_nil)) (pg_tup rfl (pgs_cons (pg_name (i := 5) sc_Ldone.nd rfl (Or.inl rfl)) (pgs_cons (pg_name (i := 6) sc_Ldone.nd rfl (Or.inl rfl)) (pgs_cons (pg_name (i := 7) sc_Ldone.nd rfl (Or.inl rfl)) pgs_nil)))))
          (pss_one (ps_ret (pe_cmpR op_isN (pe_meth (pv 0) T.cl_Renamer T.me_Renamer_kept G_Renamer_kept (hr.mono (by decide)) T.b_Renamer_kept .nil pass0 (pa_cons (pv 5) (pa_cons (pv 6) (pa_cons (pv 7) pa_nil)))) pe_non (nomark _)))))
          pss_nil)
        (pss_cons (ps_if (pt_cmpR op_eq (pe_ix ix_list (pv 2) pe_int (fun _ _ => rfl)) pe_str (nomark _))
          (pss_cons (ps_asg (pe_ix ix_list (pv 2) pe_int (fun _ _ => rfl)) (pg_sub (pe_ix ix_list (pv 1) pe_int (fun _ _ => rfl)) (pe_ix ix_list (pe_ix ix_list (pv 1) pe_int (fun _ _ => rfl)) (pe_ix ix_list (pv 2) pe_int (fun _ _ => rfl)) (fun _ _ => rfl)) set_list))
          (pss_one (ps_ret (pe_cmpR op_isN (pe_methKA (pv 0) T.cl_Renamer T.me_Renamer_written G_Renamer_written (hr.mono (by decide)) T.kbr_Renamer_written pass0 (pk_cons (pe_ix ix_list (pv 2) pe_int (fun _ _ => rfl)) (pk_cons (pe_ix ix_list (pv 2) pe_int (fun _ _ => rfl)) pk_nil))) pe_non (nomark _)))))
          pss_nil)
        (pss_one (ps_ret (pe_cmpR op_eq (pe_meth (pv 0) T.cl_Renamer T.me_Renamer_place_of G_Renamer_place_of (hr.mono (by decide)) T.b_Renamer_place_of .nil pass0 (pa_cons (pe_ix ix_list (pv 2) pe_int (fun _ _ => rfl)) pa_nil)) (pe_ix ix_list (pe_ix ix_list (pv 1) pe_int (fun _ _ => rfl)) (pe_ix ix_list (pv 2) pe_int (fun _ _ => rfl)) (fun _ _ => rfl)) (nomark _))))))))), ?_⟩
    clear G_Llent G_Renamer_lent G_Renamer_put G_Lundone G_Renamer_undone G_Lkept G_Renamer_kept G_Renamer_written G_Renamer_place_of
    clear hr
    have hk := hI.ok
    have hlen := hI.len
    have hfl := hk.fl
    have hmb := hk.mb
    have b0 : atI [V.ref n2, V.ref o2, V.ref f2, V.ref l2, V.ref c2] 0 = some (V.ref n2) := rfl
    have b1 : atI [V.ref n2, V.ref o2, V.ref f2, V.ref l2, V.ref c2] 1 = some (V.ref o2) := rfl
    have b2 : atI [V.ref n2, V.ref o2, V.ref f2, V.ref l2, V.ref c2] 2 = some (V.ref f2) := rfl
    have b3 : atI [V.ref n2, V.ref o2, V.ref f2, V.ref l2, V.ref c2] 3 = some (V.ref l2) := rfl
    have b4 : atI [V.ref n2, V.ref o2, V.ref f2, V.ref l2, V.ref c2] 4 = some (V.ref c2) := rfl
    cases d with
    | lend w =>
      obtain ⟨hw, hm⟩ := hd
      have at0 : atI (dV (.lend w)) 0 = some (.str "lend") := rfl
      have at1 : atI (dV (.lend w)) 1 = some (.int (w : Int)) := rfl
      obtain ⟨new, fr, hf⟩ : ∃ new fr, S.fr = new :: fr := by
        cases e : S.fr with
        | nil => rw [e] at hfl; simp at hfl; omega
        | cons a b => exact ⟨a, b, rfl⟩
      have hI2 := inv_lend hI (w := (w : Int)) (new := new) (fr := fr) (by omega) hf
      have S1 : SeqAt.shaped (.tuple [.int new, .int (S.nm.getD w 0)]) = true := flat_sh (n := 1) (flat_tup fun d hd => by
        simp only [List.mem_cons, List.not_mem_nil, or_false] at hd; rcases hd with rfl | rfl <;> exact flat_int 0 _)
      walk_at "go"
      intro t H4 hO
      walk_at "go"
      intro t2 H5 hO
      have D1 : Dp K H5 (.ref t2) (.tuple [.int new, .int (S.nm.getD w 0)]) := hO.one (Dv1.tup (by walk_at "mem") (.cons (.int _) (.cons (.int _) .nil)))
      have D2 : Dp K H5 (.ref t) (.tuple [.int new, .int (S.nm.getD w 0)]) := hO.one (Dv1.tup (by walk_at "mem") (.cons (.int _) (.cons (.int _) .nil)))
      walk_at "go"
      refine k ⟨S.nm.set w new, S.om, fr, S.ld ++ [((w : Int), new, S.nm.getD w 0)], S.cl⟩ _ _ hI2 hB ?_ (Own.sub hO ?_ Ps.refl)
      · walk_at "ps"
      · walk_at "sbL"
    | put i v =>
      obtain ⟨⟨r0, hr⟩, hv⟩ := hd
      have at0 : atI (dV (.put i v)) 0 = some (.str "put") := rfl
      have at1 : atI (dV (.put i v)) 1 = some (.int (i : Int)) := rfl
      have at2 : atI (dV (.put i v)) 2 = some (.int v) := rfl
      have il : i < ws.length := (List.getElem?_eq_some_iff.mp hr).1
      obtain ⟨w, nw, ow, hl, rfl, hno⟩ : ∃ w nw ow, S.ld[i]? = some (w, nw, ow) ∧ r0 = w ∧ at' S.cl nw = none := by
        have hr2 := hr
        rw [hI.wr, List.getElem?_map] at hr2
        obtain ⟨⟨w, nw, ow⟩, h1, h2⟩ := Option.map_eq_some_iff.mp hr2
        obtain ⟨h3, h4⟩ := Prod.mk.inj h2
        exact ⟨w, nw, ow, h1, h3.symm, h4⟩
      have hm := List.mem_of_getElem? hl
      have br := hk.bl _ hm
      have hnf : nw ∉ S.fr := by
        have nd := hI.nd
        unfold cells at nd
        rw [List.nodup_append, List.nodup_append] at nd
        exact fun z => nd.2.1.2.2 _ z nw (List.mem_map_of_mem (f := fun r : Ln => r.2.1) hm) rfl
      have hI2 := inv_put hI (v := v) hl
      obtain ⟨nw, rfl⟩ := Int.eq_ofNat_of_zero_le br.2.1.1
      have hn : nw < m := by have := br.2.1.2; simp at this; omega
      have hno2 : S.cl.getD nw none = none := hno
      have e4 : stepW words ws (.put i v) = (words, ws.set i (r0, some v)) := by
        show (words, ws.take i ++ [((ws.getD i (0, none)).1, some v)] ++ ws.drop (i + 1)) = _
        rw [List.set_eq_take_append_cons_drop, if_pos il, List.getD_eq_getElem?_getD, hr]
        simp
      rw [e4] at k
      have ic := ixW (ws := S.cl.map oV) (i := nw) (by simp [hk.cl]; exact hn)
      have hF := hO
      simp only [on, List.cons_append, List.nil_append] at hO k
      obtain ⟨ll, o1⟩ := hO.openL (a := l2) (ds := S.ld.map lnD) (List.mem_append.mpr (.inr (by walk_at "mem")))
      replace hO := o1 _ (by walk_at "setat")
      have hl2 := (hO.pdp (vs := ll) (by walk_at "mem")).len
      rw [List.length_map] at hl2
      clear o1
      have il2 : i < ll.length := by have := (List.getElem?_eq_some_iff.mp hl).1; omega
      obtain ⟨t0, e0, hO⟩ := hO.opn (Dv.get (Dv.of List.mem_cons_self) (List.getElem?_eq_getElem il2) (by rw [List.getElem?_map, hl]; rfl : (S.ld.map lnD)[i]? = some (lnD (r0, (nw : Int), ow))))
      have ai := atI_nat (by rw [List.getElem?_eq_getElem il2, e0] : ll[i]? = some (V.ref t0))
      have a1 : atI [V.int r0, V.int (nw : Int), V.int ow] 1 = some (V.int (nw : Int)) := rfl
      walk_at "go"
      intro H2 hO
      walk_at "go"
      refine k ⟨S.nm, S.om, S.fr, S.ld, S.cl.set nw (some v)⟩ _ _ hI2 (hB.set hv) ?_ (Own.sub hO ?_ Ps.refl)
      · walk_at "ps"
      · walk_at "sbL"
    | undo =>
      have at0 : atI (dV .undo) 0 = some (.str "undo") := rfl
      have ne : S.ld ≠ [] := fun z => hd (List.eq_nil_of_length_eq_zero (by rw [hlen.2, z]; rfl))
      obtain ⟨ld, ⟨w, i, j⟩, hld⟩ : ∃ ld r, S.ld = ld ++ [r] := by
        rcases List.eq_nil_or_concat S.ld with h | ⟨a, b, h⟩
        · exact absurd h ne
        · exact ⟨a, b, by rw [h, List.concat_eq_append]⟩
      have hI2 := inv_undo hI hld
      have br := hk.bl (w, i, j) (by rw [hld]; simp)
      obtain ⟨w, rfl⟩ := Int.eq_ofNat_of_zero_le br.1.1
      obtain ⟨i, rfl⟩ := Int.eq_ofNat_of_zero_le br.2.1.1
      walk_at "go"
      intro t H2 hO
      walk_at "go"
      intro H3 hO
      walk_at "go"
      refine k ⟨S.nm.set w j, S.om, (i : Int) :: S.fr, ld, S.cl.set i none⟩ _ _ hI2 hB.off ?_ (Own.sub hO ?_ Ps.refl)
      · walk_at "ps"
      · walk_at "sbL"
    | keep =>
      obtain ⟨r0, v, rs, rfl⟩ := hd
      have at0 : atI (dV .keep) 0 = some (.str "keep") := rfl
      obtain ⟨w, i, j, ld, hld, rfl, hv⟩ : ∃ w i j ld, S.ld = (w, i, j) :: ld ∧ r0 = w ∧ at' S.cl i = some v := by
        have h := hI.wr
        cases e : S.ld with
        | nil => rw [e] at h; cases h
        | cons a b =>
          obtain ⟨w, i, j⟩ := a
          rw [e, List.map_cons] at h
          obtain ⟨h1, h2⟩ := List.cons.inj h
          obtain ⟨h3, h4⟩ := Prod.mk.inj h1
          exact ⟨w, i, j, b, rfl, h3, h4.symm⟩
      have hI2 := inv_keep hI hld hv
      have br := hk.bl _ (by rw [hld]; exact List.mem_cons_self : (r0, i, j) ∈ S.ld)
      obtain ⟨w, rfl⟩ := Int.eq_ofNat_of_zero_le br.1.1
      obtain ⟨i, rfl⟩ := Int.eq_ofNat_of_zero_le br.2.1.1
      obtain ⟨j, rfl⟩ := Int.eq_ofNat_of_zero_le br.2.2.1
      have hv2 : ∃ v, S.cl.getD i none = some v := ⟨v, hv⟩
      walk_at "go"
      intro t H2 hO
      walk_at "go"
      intro H3 hO
      walk_at "go"
      refine k ⟨S.nm, S.om.set w (i : Int), S.fr ++ [(j : Int)], ld, S.cl.set j none⟩ _ _ hI2 hB.off ?_ (Own.sub hO ?_ Ps.refl)
      · walk_at "ps"
      · walk_at "sbL"
    | write w v =>
      obtain ⟨rfl, hw, hv⟩ := hd
      have at0 : atI (dV (.write w v)) 0 = some (.str "write") := rfl
      have at1 : atI (dV (.write w v)) 1 = some (.int (w : Int)) := rfl
      have at2 : atI (dV (.write w v)) 2 = some (.int v) := rfl
      have hI2 := inv_write hI (v := v) hw
      have hd : S.ld = [] := List.eq_nil_of_length_eq_zero hlen.2.symm
      have bo := hk.bo _ (mem_getD (l := S.om) (a := w) (d := 0) (by rw [hk.om]; exact hw))
      obtain ⟨c0, hc0⟩ := Int.eq_ofNat_of_zero_le bo.1
      rw [hc0] at hI2 bo
      have ao := atW (ws := S.om) (i := w) (by rw [hk.om]; exact hw)
      rw [hc0] at ao
      have ic := ixW (ws := S.cl.map oV) (i := c0) (by simp [hk.cl]; have := bo.2; simp at this; omega)
      have hF := hO
      simp only [on, List.cons_append, List.nil_append] at hO k
      walk_at "go"
      intro H2 hO
      walk_at "go"
      refine k ⟨S.nm, S.om, S.fr, [], S.cl.set c0 (some v)⟩ _ _ hI2 (hB.set hv) ?_ (Own.sub hO ?_ Ps.refl)
      · walk_at "ps"
      · walk_at "sbL"
        rw [hd]
    | look w =>
      have hw : w < 8 := hd
      have at0 : atI (dV (.look w)) 0 = some (.str "look") := rfl
      have at1 : atI (dV (.look w)) 1 = some (.int (w : Int)) := rfl
      have an := atW (ws := S.nm) (i := w) (by rw [hk.nm]; exact hw)
      have hF := hO
      simp only [on, List.cons_append, List.nil_append] at hO k
      walk_at "go"
      refine qbl (k S _ _ hI hB Ps.refl (Own.sub hO ?_ Ps.refl)) (decide_eq_true rfl)
      walk_at "sbL"
end
end K67

set_option Elab.async false
set_option linter.all false
set_option maxRecDepth 100000
set_option maxHeartbeats 8000000

namespace K67
open PySem PySem.Spec PyProof.Rows L2 Hx 
local macro_rules | `(tactic| walk_at "sm") => `(tactic| repeat' (first | assumption | apply Hx.Same.upd | exact L2.Same.refl _ | apply same_trans'))
local macro_rules | `(tactic| walk_at "hp") => `(tactic| repeat' (first | assumption | exact upd_same | apply old_upd | apply same_at))
local macro_rules | `(tactic| walk_at "rd") => `(tactic| repeat' (first | rfl | apply Exists.intro | apply And.intro | refine iteT ?_ | refine iteF ?_ | exact upd_same | exact SqL.of (by assumption) | exact SqL.of upd_same | exact SqT.of upd_same | exact SqT.of (by assumption) | ((with_reducible show (_ : Int) < _); omega) | ((with_reducible show (_ : Int) ≤ _); omega) | (show (_ : Prop); assumption) | exact Or.inl ⟨_, by assumption, rfl⟩ | exact Or.inl ⟨rfl, _, SqL.of (by assumption)⟩ | exact Or.inl ⟨rfl, _, SqL.of upd_same⟩ | apply old_upd | apply Hx.SqL.new | apply tyl_new | apply Pot.new | exact same_at (by assumption) (by assumption) | exact Or.inl (SqL.of (by assumption)) | exact Or.inl (by assumption) | exact Or.inl (SqL.of upd_same) | exact size_le (Nat.le_of_ble_eq_true rfl) | exact Nat.le_of_ble_eq_true rfl | exact True.intro | exact Or.inl rfl | exact Or.inr rfl | (show (_ : Prop); omega) | (show (_ : Prop); dsimp only; omega) | exact mulw64 (by omega) (by omega) | exact mulw64 (by (try dsimp only); omega) (by (try dsimp only); omega)))
set_option hygiene false in
local macro_rules | `(tactic| walk_at "fl") => `(tactic| simp only [pu_Renamer_new_map, pi_Renamer_new_map, pu_Renamer_old_map, pi_Renamer_old_map, pu_Renamer_free, pi_Renamer_free, pu_Renamer_lendings, pi_Renamer_lendings, pu_Renamer_cells, pi_Renamer_cells] at hO)
local macro_rules | `(tactic| walk_at "mem") => `(tactic| ((repeat (first | exact List.Mem.head _ | apply List.Mem.tail | fail)); done))
local macro_rules | `(tactic| walk_at "setat") => `(tactic| ((repeat (first | (with_reducible exact At.head) | (with_reducible apply At.tail) | (with_reducible apply At.app) | fail)); done))
set_option hygiene false in
local macro_rules | `(tactic| walk_at "dv") => `(tactic| ((repeat' (first | exact Dv.nil | exact Dv.of (by walk_at "mem") | exact Dv.ints _ | exact Dv1.of (by walk_at "mem") | exact Dv1.int _ | exact Dv1.non | exact Dv1.bl _ | exact Dv1.str _ | (with_reducible apply Dv.cons) | refine Dv1.tup (by walk_at "mem") ?_ | refine Dv1.lst (by walk_at "mem") ?_ | (with_reducible apply Dv.app) | fail)); done))
local macro_rules | `(tactic| walk_at "ft") => `(tactic| (first | (with_reducible exact Ft.refl) | ((with_reducible apply Ft.toL); focus walk_at "dv") | ((with_reducible apply Ft.toS); focus assumption) | (with_reducible apply Ft.lst) | (with_reducible apply Ft.Le) | (with_reducible apply Ft.dK) | (with_reducible apply Ft.De) | (with_reducible apply Ft.ins) | (with_reducible apply Ft.toL) | (with_reducible apply Ft.toS) | (with_reducible apply Ft.toD) | fail))
local macro_rules | `(tactic| walk_at "sbL") => `(tactic| repeat' (first | (with_reducible exact Sb.refl _) | exact Sb.nil | (with_reducible apply Sb.cons) | (with_reducible apply Sb.app) | (with_reducible exact Pk.one) | (with_reducible exact Pk.here) | (with_reducible exact Pk.all) | (with_reducible apply Pk.skip1) | (with_reducible apply Pk.skipB) | (with_reducible apply Sb.skip) | (with_reducible apply Sb.skipB) | ((with_reducible show Ft _ _ _ _); walk_at "ft") | ((with_reducible show (_ : List _) = _); (first | rfl | (simp [List.map_set, List.map_append]; done) | fail)) | fail))
local macro_rules | `(tactic| walk_at "sb") => `(tactic| ((walk_at "sbL"); done))
local macro_rules | `(tactic| walk_at "ps") => `(tactic| ((repeat' (first | (with_reducible exact Ps.refl) | exact Ps.nil | (with_reducible apply Ps.cons) | exact List.Mem.head _ | apply List.Mem.tail | (with_reducible apply Ps.skip) | fail)); done))
set_option hygiene false in
local macro_rules | `(tactic| walk_at "at") => `(tactic| first | assumption | exact Own.raw hO (by walk_at "mem") | exact Own.ptup hO (by walk_at "mem") | exact Own.plst hO (by walk_at "mem") | fail)
set_option hygiene false in
local macro_rules | `(tactic| walk_at "st") => `(tactic| (rw [upd_mkO hO]; generalize e : updX _ _ _ = H1; (first | ((apply Own.cset hO e); (focus walk_at "setat"); (try clear hO e); intro hO) | ((apply Own.cnewT hO e); (focus assumption); (try clear hO e); intro hO) | ((apply Own.cnew hO e); (focus assumption); (try clear hO e); intro hO) | fail)))
set_option hygiene false in
local macro_rules | `(tactic| walk_at "mk") => `(tactic| (intro p1 p2 f1 f2 f3; rw [upd_mkO hO]; generalize e : upd (updX _ _ _) _ _ = H1; apply Own.cmake hO f1 f2 f3 e; (try clear hO e); intro hO))
set_option hygiene false in
local macro_rules | `(tactic| walk_at "own") => `(tactic| (first | ((apply Own.sub hO); (focus walk_at "sb"); (focus walk_at "ps")) | ((apply Own.sub hF); (focus walk_at "sb"); (focus walk_at "ps")) | fail))
set_option hygiene false in
local macro_rules | `(tactic| walk_at "fin") => `(tactic| (refine Own.sub hO ?_ (by walk_at "ps"); walk_at "sbL"))
set_option hygiene false in
local macro_rules | `(tactic| walk_at "g1") => `(tactic| (first
 | ((with_reducible show (_ : Option HO) = _); walk_at "at")
 | ((with_reducible show (_ : Int) < _); omega) | ((with_reducible show (_ : Int) ≤ _); omega)
 | ((with_reducible show (_ : Nat) < _); (first | assumption | exact Nat.le_of_ble_eq_true rfl | exact size_lt (Nat.le_of_ble_eq_true rfl) | omega | (simp; done) | (simp; omega) | fail))
 | ((with_reducible show (_ : Nat) ≤ _); (first | assumption | exact Nat.le_of_ble_eq_true rfl | exact size_le (Nat.le_of_ble_eq_true rfl) | omega | (simp; done) | (simp; omega) | fail))
 | ((with_reducible show Own _ _ _ _); (first | walk_at "own" | (walk_at "st"; walk_at "own") | fail))
 | ((with_reducible show SqL _ _ _ _); (first | assumption | exact SqL.of (by walk_at "at") | fail))
 | ((with_reducible show SqT _ _ _ _); (first | assumption | exact hO.psq (by walk_at "mem") | exact SqT.of (by walk_at "at") | fail))
  | ((with_reducible show Cls _ _); exact Txt.cl_Renamer T) | ((with_reducible show NoAttr _ _ _); exact Txt.n_Renamer_new_map T) | (with_reducible exact gt_Renamer_new_map) | ((with_reducible show NoAttr _ _ _); exact Txt.n_Renamer_old_map T) | (with_reducible exact gt_Renamer_old_map) | ((with_reducible show NoAttr _ _ _); exact Txt.n_Renamer_free T) | (with_reducible exact gt_Renamer_free) | ((with_reducible show NoAttr _ _ _); exact Txt.n_Renamer_lendings T) | (with_reducible exact gt_Renamer_lendings) | ((with_reducible show NoAttr _ _ _); exact Txt.n_Renamer_cells T) | (with_reducible exact gt_Renamer_cells)
 | ((with_reducible show SqL _ _ _ _ ∨ SqT _ _ _ _); (first | exact Or.inl (SqL.of (by walk_at "at")) | exact Or.inr (SqT.of (by walk_at "at")) | fail))
 | ((with_reducible show Dp _ _ _ _); (first | assumption | exact hO.dpL (by walk_at "mem") | exact .lst (SqL.of (by walk_at "at")) (hO.all (by walk_at "dv")) | exact hO.one (by walk_at "dv") | fail))
 | ((with_reducible show TruV _ _ _ _); (first | exact Or.inl ⟨_, SqL.of (by walk_at "at"), rfl⟩ | exact Or.inr (Or.inr ⟨_, by walk_at "at", rfl⟩) | exact Or.inr (Or.inl ⟨_, SqT.of (by walk_at "at"), rfl⟩) | fail))
 | ((with_reducible show RgOk _ _); exact RgOk.of_le (by omega) (by omega) (by omega) (by omega))
 | rfl | (with_reducible assumption) | apply And.intro | apply Exists.intro | refine iteT ?_ | refine iteF ?_
 | (walk_at "st"; (try walk_at "fl"))
 | ((with_reducible show ∀ _ : Addr, _ = none → _); (fail_if_success (with_reducible show ∀ _ : Addr, _ = none → ∃ _ : Nat → Nat → Hp → Prop, _)); intro p fp; walk_at "st")
 | (refine Or.inl ⟨SqL.of (by walk_at "at"), ?_⟩) | (refine Or.inr ⟨SqT.of (by walk_at "at"), ?_⟩) | exact Or.inl ⟨_, by walk_at "at", rfl⟩ | exact Or.inl ⟨rfl, _, SqL.of (by walk_at "at")⟩ | exact tyl_of (by walk_at "at") | exact Or.inl (SqL.of (by walk_at "at")) | exact Or.inr (SqT.of (by walk_at "at")) | exact Or.inl (by walk_at "at") | exact size_le (Nat.le_of_ble_eq_true rfl) | exact Nat.le_of_ble_eq_true rfl | exact True.intro | exact Or.inl rfl | exact Or.inr rfl | (show (_ : Prop); assumption) | (show (_ : Prop); omega) | (show (_ : Prop); dsimp only; omega) | exact mulw64 (by omega) (by omega) | exact mulw64 (by (try dsimp only); omega) (by (try dsimp only); omega) | fail))
local macro_rules | `(tactic| walk_at "go") => `(tactic| repeat walk_at "g1")

section
variable {P : Program} {w : World} {K : PySem.W.Frag} {mg : Str → Option Value} {base : Heap}
theorem ld_sh (S : RS) : SeqAt.shaped (.list (S.ld.map lnD)) = true := flat_sh (n := 2) (flat_list (n := 1) fun d hd => by
  obtain ⟨z, _, rfl⟩ := List.mem_map.mp hd
  exact flat_tup (n := 0) fun d hd => by simp only [List.mem_cons, List.not_mem_nil, or_false] at hd; rcases hd with rfl | rfl | rfl <;> exact flat_int 0 _)
theorem td_show {S : RS} {m : Nat} (hk : Ok S m) (hB : BV S.cl) : Hx.Sh 3 17068 (tdD S) := by
  have hm := hk.mb
  have num : ∀ i : Int, 0 ≤ i ∧ i < 65536 → Hx.Sh 0 20 (.int i) := fun i h => sh_num ⟨h.1, Int.lt_trans h.2 (by decide)⟩
  have nums : ∀ l : List Int, (∀ i ∈ l, 0 ≤ i ∧ i < (m : Int)) → l.length ≤ 48 → Hx.Sh 2 3411 (.tuple (l.map PyData.int)) := fun l h hl => (sh_tup (k := 0) (b := 20) 48 (fun d hd => by
    obtain ⟨z, hz, rfl⟩ := List.mem_map.mp hd
    exact num z (by have := h z hz; omega)) (by rw [List.length_map]; exact hl)).mono (by decide) (by decide)
  have fl := hk.fl
  refine sh_tup (k := 2) (b := 3411) 5 (fun d hd => ?_) (Nat.le_refl _)
  simp only [List.mem_cons, List.not_mem_nil, or_false] at hd
  rcases hd with rfl | rfl | rfl | rfl | rfl
  · exact nums _ hk.bn (by rw [hk.nm]; decide)
  · exact nums _ hk.bo (by rw [hk.om]; decide)
  · exact nums _ hk.bf (by omega)
  · refine sh_tup (k := 1) (b := 69) 48 (fun d hd => ?_) (by rw [List.length_map]; omega)
    obtain ⟨z, hz, rfl⟩ := List.mem_map.mp hd
    have bz := hk.bl z hz
    refine sh_tup (k := 0) (b := 20) 3 (fun d hd => ?_) (Nat.le_refl _)
    simp only [List.mem_cons, List.not_mem_nil, or_false] at hd
    rcases hd with rfl | rfl | rfl
    · exact num _ (by omega)
    · exact num _ (by omega)
    · exact num _ (by omega)
  · refine (sh_tup (k := 0) (b := 20) 48 (fun d hd => ?_) (by rw [List.length_map, hk.cl]; omega)).mono (by decide) (by decide)
    obtain ⟨z, hz, rfl⟩ := List.mem_map.mp hd
    cases z with
    | none => exact sh_non
    | some v => exact num v (hB v hz)
def sp_Lshows (K : PySem.W.Frag) (C : Addr) : Sp := fun vs H Q _ => ∃ (x dx n o f l c x2 n2 o2 f2 l2 c2 : Addr) (S : RS) (m : Nat) (words : List Int) (ws : List Wr) (R : List (Addr × Ob)) (P : List Pf), vs = [.ref x, .ref x2, .int (m : Int)] ∧
  Own K H (rn C x dx n o f l c S ++ (on x2 n2 o2 f2 l2 c2 S ++ R)) P ∧ Inv S m words ws ∧ BV S.cl ∧
  ∀ (H' : Hp) (P' : List Pf), Ps P P' → Own K H' (rn C x dx n o f l c S ++ (on x2 n2 o2 f2 l2 c2 S ++ R)) P' → Q (.bl true) H'
theorem ok_Lshows (T : Txt K mg) : FnG P w K mg base 2 T.f_Lshows T.fd_Lshows ["_law_renamer", "_law_own", "_law_many"] (sp_Lshows K T.C_Renamer) := by
  have G_Renamer_told := ok_Renamer_told (P := P) (w := w) (base := base) T
  have G_Ltold := ok_Ltold (P := P) (w := w) (base := base) T
  have G_Renamer_lendings := ok_Renamer_lendings (P := P) (w := w) (base := base) T
  have G_Renamer_free := ok_Renamer_free (P := P) (w := w) (base := base) T
  refine fnG T.F_Lshows sc_Lshows (fun vs H Q E h => ?_) (fun cdv A outer s H vs Q E hr hg h => ?_)
  · obtain ⟨x, dx, n, o, f, l, c, x2, n2, o2, f2, l2, c2, S, m, words, ws, R, P, rfl, hO, hI, hB, k⟩ := h; rfl
  · obtain ⟨x, dx, n, o, f, l, c, x2, n2, o2, f2, l2, c2, S, m, words, ws, R, P, rfl, hO, hI, hB, k⟩ := h
    refine ⟨_, (pss_cons (ps_if (pt_mid (pt_cmpR op_ne (pe_callB (call_reprG hg (hr.mono (by decide))) (by rfl) T.m_repr (by decide +kernel) (pa_cons (pe_meth0 (pv 0) T.cl_Renamer T.me_Renamer_told G_Renamer_told (hr.mono (by decide)) T.b_Renamer_told .nil pass0) pa_nil)) (pe_callB (call_reprG hg (hr.mono (by decide))) (by rfl) T.m_repr (by decide +kernel) (pa_cons (pe_call G_Ltold (hr.mono (by decide)) rfl T.g_Ltold T.F_Ltold.kp T.b_Ltold .nil pass0 (pa_cons (pv 1) pa_nil)) pa_nil)) (nomark _)))
          (pss_one (ps_ret pe_bl))
          pss_nil)
        (pss_cons (ps_if (PW.pt (pw_or (pt_cmpR (op_neS hr.units) (pe_meth0 (pv 0) T.cl_Renamer T.me_Renamer_free G_Renamer_free (hr.mono (by decide)) T.b_Renamer_free .nil pass0) (pe_ix ix_list (pv 1) pe_int (fun _ _ => rfl)) (nomark _)) (pw_or1 (pt_cmpR (op_neS hr.units) (pe_meth0 (pv 0) T.cl_Renamer T.me_Renamer_lendings G_Renamer_lendings (hr.mono (by decide)) T.b_Renamer_lendings .nil pass0) (pe_ix ix_list (pv 1) pe_int (fun _ _ => rfl)) (nomark _)))))
          (pss_one (ps_ret pe_bl))
          pss_nil)
        (pss_cons (ps_set (i := 3) sc_Lshows.nd rfl (Or.inl rfl) (pe_op op_cat (pe_op op_cat (pe_ix ix_list (pv 1) pe_int (fun _ _ => rfl)) (pe_ix ix_list (pv 1) pe_int (fun _ _ => rfl))) (pe_lc (own := [("_law_which", 4), ("_law_new", 5), ("_law_old", 6)]) (g := gTup _ 3 (gCons (gName 4) (gCons (gName 5) (gCons (gName 6) gNil)))) (tt := tYes) rfl sc_Lshows.nd (pi_list (pe_ix ix_list (pv 1) pe_int (fun _ _ => rfl))) (blkOk_by (N := ["_law_renamer", "_law_own", "_law_many", "_law_cells", "_law_which", "_law_new", "_law_old"]) (sc := defScope s_Lshows) (by decide +kernel)) (fun _ _ _ _ _ => pg_trip (i := 4) (j := 5) (l := 6) rfl sc_Lshows.nd rfl rfl rfl (Or.inl rfl) (Or.inl rfl) (Or.inl rfl)) (fun _ _ _ _ _ => pts_nil) (fun _ _ _ _ _ => (pv 5)))))
        (pss_cons (ps_if (pt_cmpR (op_neS hr.units) (pe_callB cr_sortedI (by rfl) T.m_sorted (by decide +kernel) (pa_cons (pv 3) pa_nil)) (pe_listRg rfl rfl T.m_list (prg_1 rfl T.m_range (pv 2))) (nomark _))
          (pss_one (ps_ret pe_bl))
          pss_nil)
        (pss_cons (ps_expr (pe_bm PySem.F.plainAttrs_list PySem.F.slot_list_append PySem.F.type_list_append mt_append (pe_meth0 (pv 0) T.cl_Renamer T.me_Renamer_free G_Renamer_free (hr.mono (by decide)) T.b_Renamer_free .nil pass0) (pa_cons pe_non pa_nil)))
        (pss_cons (ps_expr (pe_bm PySem.F.plainAttrs_list PySem.F.slot_list_append PySem.F.type_list_append mt_append (pe_meth0 (pv 0) T.cl_Renamer T.me_Renamer_lendings G_Renamer_lendings (hr.mono (by decide)) T.b_Renamer_lendings .nil pass0) (pa_cons pe_non pa_nil)))
        (pss_one (ps_ret (pe_and (pe_cmpR (op_eqS hr.units) (pe_meth0 (pv 0) T.cl_Renamer T.me_Renamer_free G_Renamer_free (hr.mono (by decide)) T.b_Renamer_free .nil pass0) (pe_ix ix_list (pv 1) pe_int (fun _ _ => rfl)) (nomark _)) (pe_one (pe_cmpR (op_eqS hr.units) (pe_meth0 (pv 0) T.cl_Renamer T.me_Renamer_lendings G_Renamer_lendings (hr.mono (by decide)) T.b_Renamer_lendings .nil pass0) (pe_ix ix_list (pv 1) pe_int (fun _ _ => rfl)) (nomark _)))))))))))), ?_⟩
    clear G_Renamer_told G_Ltold G_Renamer_lendings G_Renamer_free
    clear hr hg
    have hk := hI.ok
    have hsh := td_show hk hB
    have hmb := hk.mb
    have hfl := hk.fl
    obtain ⟨D, hD⟩ : ∃ D, D = tdD S := ⟨_, rfl⟩
    have T1 : D.showable = true := by rw [hD]; exact hsh.sw
    have T2 : D.hasDict = false := by rw [hD]; exact hsh.nd
    have T3 : D.depth ≤ 64 := by rw [hD]; exact Nat.le_trans hsh.dp (by decide)
    have T4 : D.shown.length ≤ sizeLine := by rw [hD]; exact Nat.le_trans hsh.ln (by rw [sizeLine_eq]; decide)
    clear hsh
    walk_at "go"
    refine Stop.mk ⟨fun b H' => Stop (b = false ∧ ∃ P3, Ps P P3 ∧ Own K H' (rn T.C_Renamer x dx n o f l c S ++ (on x2 n2 o2 f2 l2 c2 S ++ R)) P3), ?_, fun b H9 hM => ?_⟩
    · walk_at "go"
      intro t1 H1 P1 sp1 hO
      have D1 := hO.pd1 List.mem_cons_self
      rw [← hD] at D1
      walk_at "go"
      intro t2 ws2 H2 P2 sp2 hO
      have D2 := hO.pd1 (List.mem_cons_of_mem _ List.mem_cons_self)
      rw [← hD] at D2
      walk_at "go"
      refine ⟨⟨by simp, _, fun q hq => List.mem_cons_of_mem _ (List.mem_cons_of_mem _ (sp2 q (List.mem_cons_of_mem _ (sp1 q hq)))), Own.sub hO ?_ Ps.refl⟩⟩
      walk_at "sbL"
    obtain ⟨rfl, P3, sp3, hO⟩ := hM.h
    clear hM T1 T2 T3 T4 hD
    have b0 : atI [V.ref n2, V.ref o2, V.ref f2, V.ref l2, V.ref c2] 0 = some (V.ref n2) := rfl
    have b1 : atI [V.ref n2, V.ref o2, V.ref f2, V.ref l2, V.ref c2] 1 = some (V.ref o2) := rfl
    have b2 : atI [V.ref n2, V.ref o2, V.ref f2, V.ref l2, V.ref c2] 2 = some (V.ref f2) := rfl
    have b3 : atI [V.ref n2, V.ref o2, V.ref f2, V.ref l2, V.ref c2] 3 = some (V.ref l2) := rfl
    have b4 : atI [V.ref n2, V.ref o2, V.ref f2, V.ref l2, V.ref c2] 4 = some (V.ref c2) := rfl
    have S1 := sh_ints S.fr
    have S2 := ld_sh S
    have S3 := sh_ints ((List.range m).map fun i : Nat => (i : Int))
    have z1 : (S.om.map V.int).length + (S.fr.map V.int).length ≤ sizeLine := size_le (by simp [hk.om]; omega)
    have z2 : (S.om.map V.int ++ S.fr.map V.int).length + ((S.ld.map fun r => r.2.1).map V.int).length ≤ sizeLine := size_le (by simp [hk.om]; omega)
    have z3 : (S.fr.map V.int).length < sizeLine := size_lt (by simp; omega)
    have hF := hO
    simp only [on, List.cons_append, List.nil_append] at hO
    obtain ⟨ll, o1⟩ := hO.openL (a := l2) (ds := S.ld.map lnD) (List.mem_append.mpr (.inr (by walk_at "mem")))
    replace hO := o1 _ (by walk_at "setat")
    have hl2 := (hO.pdp (vs := ll) (by walk_at "mem")).len
    rw [List.length_map] at hl2
    clear o1
    walk_at "go"
    intro t3 H3 hO
    walk_at "go"
    intro t4 H4 hO
    walk_at "go"
    intro D2 hD2
    have lz : ∀ i (r : Ln), S.ld[i]? = some r → ((S.ld.map fun r => r.2.1).map V.int)[i]? = some (V.int r.2.1) := fun i r h => by
      rw [List.getElem?_map, List.getElem?_map, h]; rfl
    refine lc_rawW (walk_list (xs := ll)) ((S.ld.map fun r => r.2.1).map V.int) hO hD2 (by simp; omega) (by omega) (fun H L' P' s t h => SqL.of (h.raw (s _ (by walk_at "mem")))) (fun j x y H9 H' P' Q' hj hx hy sp hO kq => ?_) (fun H5 P5 sp5 hO => ?_)
    · obtain ⟨rfl, hx⟩ := hx
      have jl : j < S.ld.length := by omega
      have hy2 := lz j _ (List.getElem?_eq_getElem jl)
      rw [hy] at hy2
      obtain rfl := Option.some.inj hy2
      obtain ⟨t0, rfl, hO⟩ := hO.opn (Dv.get (Dv.of (sp _ List.mem_cons_self)) hx (by rw [List.getElem?_map, List.getElem?_eq_getElem jl]; rfl : (S.ld.map lnD)[j]? = some (lnD S.ld[j])))
      have ht0 := hO.psq List.mem_cons_self
      generalize S.ld[j] = r at hO kq ht0
      walk_at "go"
      exact kq _ _ (by walk_at "ps") hO
    replace hO := hO.sub (Sb.refl _) sp5
    walk_at "go"
    rw [← List.map_append, ← List.map_append] at hO
    walk_at "go"
    intro ns p9 hp hs fp
    have er := sorted_range hp hs (by rw [List.append_assoc]; exact hI.nd) (by simp [hk.om]; omega) (fun c hc => hI.rg c (by rw [List.append_assoc] at hc; exact hc))
    subst er
    walk_at "go"
    rw [rgV_nat] at hO
    walk_at "go"
    intro t5 H6 hO
    walk_at "go"
    intro t6 H7 hO
    obtain ⟨l6, o1⟩ := hO.openL (a := t6) (ds := S.ld.map lnD) List.mem_cons_self
    replace hO := o1 _ (by walk_at "setat")
    have hl6 := (hO.pdp (vs := l6) (by walk_at "mem")).len
    rw [List.length_map] at hl6
    clear o1
    have z4 : l6.length < sizeLine := size_lt (by omega)
    walk_at "go"
    intro t7 H8 hO
    walk_at "go"
    intro t8 H9 hO
    walk_at "go"
    refine k _ P3 sp3 (Own.sub hO ?_ (Ps.skip (Ps.skip Ps.refl)))
    simp only [on, List.cons_append, List.nil_append]
    walk_at "sbL"
end
end K67

set_option Elab.async false
set_option linter.all false
set_option maxRecDepth 100000
set_option maxHeartbeats 8000000

namespace K67
open PySem PySem.Spec PyProof.Rows L2 Hx 
local macro_rules | `(tactic| walk_at "sm") => `(tactic| repeat' (first | assumption | apply Hx.Same.upd | exact L2.Same.refl _ | apply same_trans'))
local macro_rules | `(tactic| walk_at "hp") => `(tactic| repeat' (first | assumption | exact upd_same | apply old_upd | apply same_at))
local macro_rules | `(tactic| walk_at "rd") => `(tactic| repeat' (first | rfl | apply Exists.intro | apply And.intro | refine iteT ?_ | refine iteF ?_ | exact upd_same | exact SqL.of (by assumption) | exact SqL.of upd_same | exact SqT.of upd_same | exact SqT.of (by assumption) | ((with_reducible show (_ : Int) < _); omega) | ((with_reducible show (_ : Int) ≤ _); omega) | (show (_ : Prop); assumption) | exact Or.inl ⟨_, by assumption, rfl⟩ | exact Or.inl ⟨rfl, _, SqL.of (by assumption)⟩ | exact Or.inl ⟨rfl, _, SqL.of upd_same⟩ | apply old_upd | apply Hx.SqL.new | apply tyl_new | apply Pot.new | exact same_at (by assumption) (by assumption) | exact Or.inl (SqL.of (by assumption)) | exact Or.inl (by assumption) | exact Or.inl (SqL.of upd_same) | exact size_le (Nat.le_of_ble_eq_true rfl) | exact Nat.le_of_ble_eq_true rfl | exact True.intro | exact Or.inl rfl | exact Or.inr rfl | (show (_ : Prop); omega) | (show (_ : Prop); dsimp only; omega) | exact mulw64 (by omega) (by omega) | exact mulw64 (by (try dsimp only); omega) (by (try dsimp only); omega)))
set_option hygiene false in
local macro_rules | `(tactic| walk_at "fl") => `(tactic| simp only [pu_Renamer_new_map, pi_Renamer_new_map, pu_Renamer_old_map, pi_Renamer_old_map, pu_Renamer_free, pi_Renamer_free, pu_Renamer_lendings, pi_Renamer_lendings, pu_Renamer_cells, pi_Renamer_cells] at hO)
local macro_rules | `(tactic| walk_at "mem") => `(tactic| ((repeat (first | exact List.Mem.head _ | apply List.Mem.tail | fail)); done))
local macro_rules | `(tactic| walk_at "setat") => `(tactic| ((repeat (first | (with_reducible exact At.head) | (with_reducible apply At.tail) | (with_reducible apply At.app) | fail)); done))
set_option hygiene false in
local macro_rules | `(tactic| walk_at "dv") => `(tactic| ((repeat' (first | exact Dv.nil | exact Dv.of (by walk_at "mem") | exact Dv.ints _ | exact Dv1.of (by walk_at "mem") | exact Dv1.int _ | exact Dv1.non | exact Dv1.bl _ | exact Dv1.str _ | (with_reducible apply Dv.cons) | refine Dv1.tup (by walk_at "mem") ?_ | refine Dv1.lst (by walk_at "mem") ?_ | (with_reducible apply Dv.app) | fail)); done))
local macro_rules | `(tactic| walk_at "ft") => `(tactic| (first | (with_reducible exact Ft.refl) | ((with_reducible apply Ft.toL); focus walk_at "dv") | ((with_reducible apply Ft.toS); focus assumption) | (with_reducible apply Ft.lst) | (with_reducible apply Ft.Le) | (with_reducible apply Ft.dK) | (with_reducible apply Ft.De) | (with_reducible apply Ft.ins) | (with_reducible apply Ft.toL) | (with_reducible apply Ft.toS) | (with_reducible apply Ft.toD) | fail))
local macro_rules | `(tactic| walk_at "sbL") => `(tactic| repeat' (first | (with_reducible exact Sb.refl _) | exact Sb.nil | (with_reducible apply Sb.cons) | (with_reducible apply Sb.app) | (with_reducible exact Pk.one) | (with_reducible exact Pk.here) | (with_reducible exact Pk.all) | (with_reducible apply Pk.skip1) | (with_reducible apply Pk.skipB) | (with_reducible apply Sb.skip) | (with_reducible apply Sb.skipB) | ((with_reducible show Ft _ _ _ _); walk_at "ft") | ((with_reducible show (_ : List _) = _); (first | rfl | (simp [List.map_set, List.map_append]; done) | fail)) | fail))
local macro_rules | `(tactic| walk_at "sb") => `(tactic| ((walk_at "sbL"); done))
local macro_rules | `(tactic| walk_at "ps") => `(tactic| ((repeat' (first | (with_reducible exact Ps.refl) | exact Ps.nil | (with_reducible apply Ps.cons) | exact List.Mem.head _ | apply List.Mem.tail | (with_reducible apply Ps.skip) | fail)); done))
set_option hygiene false in
local macro_rules | `(tactic| walk_at "at") => `(tactic| first | assumption | exact Own.raw hO (by walk_at "mem") | exact Own.ptup hO (by walk_at "mem") | exact Own.plst hO (by walk_at "mem") | fail)
set_option hygiene false in
local macro_rules | `(tactic| walk_at "st") => `(tactic| (rw [upd_mkO hO]; generalize e : updX _ _ _ = H1; (first | ((apply Own.cset hO e); (focus walk_at "setat"); (try clear hO e); intro hO) | ((apply Own.cnewT hO e); (focus assumption); (try clear hO e); intro hO) | ((apply Own.cnew hO e); (focus assumption); (try clear hO e); intro hO) | fail)))
set_option hygiene false in
local macro_rules | `(tactic| walk_at "mk") => `(tactic| (intro p1 p2 f1 f2 f3; rw [upd_mkO hO]; generalize e : upd (updX _ _ _) _ _ = H1; apply Own.cmake hO f1 f2 f3 e; (try clear hO e); intro hO))
set_option hygiene false in
local macro_rules | `(tactic| walk_at "own") => `(tactic| (first | ((apply Own.sub hO); (focus walk_at "sb"); (focus walk_at "ps")) | ((apply Own.sub hF); (focus walk_at "sb"); (focus walk_at "ps")) | fail))
set_option hygiene false in
local macro_rules | `(tactic| walk_at "fin") => `(tactic| (refine Own.sub hO ?_ (by walk_at "ps"); walk_at "sbL"))
set_option hygiene false in
local macro_rules | `(tactic| walk_at "g1") => `(tactic| (first
 | ((with_reducible show (_ : Option HO) = _); walk_at "at")
 | ((with_reducible show (_ : Int) < _); omega) | ((with_reducible show (_ : Int) ≤ _); omega)
 | ((with_reducible show (_ : Nat) < _); (first | assumption | exact Nat.le_of_ble_eq_true rfl | exact size_lt (Nat.le_of_ble_eq_true rfl) | omega | (simp; done) | (simp; omega) | fail))
 | ((with_reducible show (_ : Nat) ≤ _); (first | assumption | exact Nat.le_of_ble_eq_true rfl | exact size_le (Nat.le_of_ble_eq_true rfl) | omega | (simp; done) | (simp; omega) | fail))
 | ((with_reducible show Own _ _ _ _); (first | walk_at "own" | (walk_at "st"; walk_at "own") | fail))
 | ((with_reducible show SqL _ _ _ _); (first | assumption | exact SqL.of (by walk_at "at") | fail))
 | ((with_reducible show SqT _ _ _ _); (first | assumption | exact hO.psq (by walk_at "mem") | exact SqT.of (by walk_at "at") | fail))
  | ((with_reducible show Cls _ _); exact Txt.cl_Renamer T) | ((with_reducible show NoAttr _ _ _); exact Txt.n_Renamer_new_map T) | (with_reducible exact gt_Renamer_new_map) | ((with_reducible show NoAttr _ _ _); exact Txt.n_Renamer_old_map T) | (with_reducible exact gt_Renamer_old_map) | ((with_reducible show NoAttr _ _ _); exact Txt.n_Renamer_free T) | (with_reducible exact gt_Renamer_free) | ((with_reducible show NoAttr _ _ _); exact Txt.n_Renamer_lendings T) | (with_reducible exact gt_Renamer_lendings) | ((with_reducible show NoAttr _ _ _); exact Txt.n_Renamer_cells T) | (with_reducible exact gt_Renamer_cells)
 | ((with_reducible show SqL _ _ _ _ ∨ SqT _ _ _ _); (first | exact Or.inl (SqL.of (by walk_at "at")) | exact Or.inr (SqT.of (by walk_at "at")) | fail))
 | ((with_reducible show Dp _ _ _ _); (first | assumption | exact hO.dpL (by walk_at "mem") | exact .lst (SqL.of (by walk_at "at")) (hO.all (by walk_at "dv")) | exact hO.one (by walk_at "dv") | fail))
 | ((with_reducible show TruV _ _ _ _); (first | exact Or.inl ⟨_, SqL.of (by walk_at "at"), rfl⟩ | exact Or.inr (Or.inr ⟨_, by walk_at "at", rfl⟩) | exact Or.inr (Or.inl ⟨_, SqT.of (by walk_at "at"), rfl⟩) | fail))
 | ((with_reducible show RgOk _ _); exact RgOk.of_le (by omega) (by omega) (by omega) (by omega))
 | rfl | (with_reducible assumption) | apply And.intro | apply Exists.intro | refine iteT ?_ | refine iteF ?_
 | (walk_at "st"; (try walk_at "fl"))
 | ((with_reducible show ∀ _ : Addr, _ = none → _); (fail_if_success (with_reducible show ∀ _ : Addr, _ = none → ∃ _ : Nat → Nat → Hp → Prop, _)); intro p fp; walk_at "st")
 | (refine Or.inl ⟨SqL.of (by walk_at "at"), ?_⟩) | (refine Or.inr ⟨SqT.of (by walk_at "at"), ?_⟩) | exact Or.inl ⟨_, by walk_at "at", rfl⟩ | exact Or.inl ⟨rfl, _, SqL.of (by walk_at "at")⟩ | exact tyl_of (by walk_at "at") | exact Or.inl (SqL.of (by walk_at "at")) | exact Or.inr (SqT.of (by walk_at "at")) | exact Or.inl (by walk_at "at") | exact size_le (Nat.le_of_ble_eq_true rfl) | exact Nat.le_of_ble_eq_true rfl | exact True.intro | exact Or.inl rfl | exact Or.inr rfl | (show (_ : Prop); assumption) | (show (_ : Prop); omega) | (show (_ : Prop); dsimp only; omega) | exact mulw64 (by omega) (by omega) | exact mulw64 (by (try dsimp only); omega) (by (try dsimp only); omega) | fail))
local macro_rules | `(tactic| walk_at "go") => `(tactic| repeat walk_at "g1")

section
variable {P : Program} {w : World} {K : PySem.W.Frag} {mg : Str → Option Value} {base : Heap}
def sp_lright (K : PySem.W.Frag) : Sp := fun vs H Q _ => ∃ (a : Addr), vs = [.ref a] ∧ Own K H (pt a ++ []) [] ∧ ∀ H', Q (.bl true) H'
theorem own_pack {K : PySem.W.Frag} {H : Hp} {L : List (Addr × Ob)} {P : List Pf} (h : Own K H L P) {Z : Prop} (k : ∀ P', P' = P → Own K H L P' → Z) : Z := k P rfl h
theorem bv_s0 (m : Nat) : BV (s0 m).cl := fun v hv => by
  simp [s0] at hv
  omega
theorem ok_Lright (T : Txt K mg) : FnG P w K mg base 8 T.f_Lright T.fd_Lright ["_law_pot_here"] (sp_lright K) := by
  have G_Ldraw := ok_Ldraw (P := P) (w := w) (base := base) T
  have G_Lbegun := ok_Lbegun (P := P) (w := w) (base := base) T
  have G_Renamer_init := ok_Renamer_init (P := P) (w := w) (base := base) T
  have G_Renamer_copy := ok_Renamer_copy (P := P) (w := w) (base := base) T
  have G_Ltold := ok_Ltold (P := P) (w := w) (base := base) T
  have G_Ldeed := ok_Ldeed (P := P) (w := w) (base := base) T
  have G_Lshows := ok_Lshows (P := P) (w := w) (base := base) T
  have G_Ldone := ok_Ldone (P := P) (w := w) (base := base) T
  have G_Renamer_told := ok_Renamer_told (P := P) (w := w) (base := base) T
  have G_Renamer_eq := ok_Renamer_eq (P := P) (w := w) (base := base) T
  refine fnG T.F_Lright sc_Lright (fun vs H Q E h => ?_) (fun cdv A outer s H vs Q E hr hg h => ?_)
  · obtain ⟨a, rfl, hO, k⟩ := h; rfl
  · obtain ⟨a, rfl, hO, k⟩ := h
    refine ⟨_, (pss_cons (ps_set (i := 1) sc_Lright.nd rfl (Or.inl rfl) (pe_op op_add pe_int (pe_call G_Ldraw (hr.mono (by decide)) rfl T.g_Ldraw T.F_Ldraw.kp T.b_Ldraw .nil pass0 (pa_cons (pv 0) (pa_cons pe_int pa_nil)))))
        (pss_cons (ps_asg (pe_tup (pa_cons (pe_make T.mk_Renamer G_Renamer_init (hr.mono (by decide)) rfl T.g_Renamer T.b_Renamer_init .nil pass0 (pa_cons (pv 1) pa_nil)) (pa_cons (pe_call G_Lbegun (hr.mono (by decide)) rfl T.g_Lbegun T.F_Lbegun.kp T.b_Lbegun .nil pass0 (pa_cons (pv 1) pa_nil)) pa_nil))) (pg_tup rfl (pgs_cons (pg_name (i := 2) sc_Lright.nd rfl (Or.inl rfl)) (pgs_cons (pg_name (i := 3) sc_Lright.nd rfl (Or.inr rfl)) pgs_nil))))
        (pss_cons (ps_par (i := 4) (j := 5) rfl sc_Lright.nd rfl rfl (by decide) rfl rfl (pa_cons (pe_meth0 (pv 2) T.cl_Renamer T.me_Renamer_copy G_Renamer_copy (hr.mono (by decide)) T.b_Renamer_copy .nil pass0) (pa_cons (pe_call G_Ltold (hr.mono (by decide)) rfl T.g_Ltold T.F_Ltold.kp T.b_Ltold .nil pass0 (pa_cons (pv 3) pa_nil)) pa_nil)) (by rfl))
        (pss_cons (ps_forS PassesOwn.never rfl (pi_range1 rfl T.m_range (pa_cons pe_int pa_nil)) (pg_name (i := 6) sc_Lright.nd rfl (Or.inl rfl))
          (pss_cons (ps_setLc (i := 7) (own := [("_law_which", 9), ("_law_new", 10), ("_law_old", 11)]) (g := gTup _ 3 (gCons (gName 9) (gCons (gName 10) (gCons (gName 11) gNil)))) (tt := tYes) (te := tTup (tCons (tVar 9) (tCons (tOp (rIxL K) (tOp (rIxL K) (tVar 3) (tC (.int 4))) (tVar 10)) tNil))) rfl sc_Lright.nd rfl rfl (sw_true rfl rfl rfl (by decide +kernel)) (pi_list (pe_ix ix_list (pv 3) pe_int (fun _ _ => rfl))) (blkOk_by (N := ["_law_pot_here", "_law_many", "_law_renamer", "_law_own", "_law_elder", "_law_told_here", "_law_turn", "_law_writes", "_law_deed_here", "_law_which", "_law_new", "_law_old"]) (sc := defScope s_Lright) (by decide +kernel)) (fun _ _ _ _ _ => pg_trip (i := 9) (j := 10) (l := 11) rfl sc_Lright.nd rfl rfl rfl (Or.inl rfl) (Or.inl rfl) (Or.inl rfl)) (fun _ _ _ _ _ => pts_nil) (fun _ _ _ _ _ => (pe_tup (pa_cons (pv 9) (pa_cons (pe_ix ix_list (pe_ix ix_list (pv 3) pe_int (fun _ _ => rfl)) (pv 10) (fun _ _ => rfl)) pa_nil)))))
          (pss_cons (ps_set (i := 8) sc_Lright.nd rfl (Or.inl rfl) (pe_call G_Ldeed (hr.mono (by decide)) rfl T.g_Ldeed T.F_Ldeed.kp T.b_Ldeed .nil pass0 (pa_cons (pv 0) (pa_cons (pv 1) (pa_cons (pv 7) pa_nil)))))
          (pss_cons (ps_if (PW.pt (pw_or (pt_not (pt_val (pe_call G_Ldone (hr.mono (by decide)) rfl T.g_Ldone T.F_Ldone.kp T.b_Ldone .nil pass0 (pa_cons (pv 2) (pa_cons (pv 3) (pa_cons (pv 8) pa_nil)))))) (pw_or1 (pt_not (pt_val (pe_callG (E := E0) hg G_Lshows (hr.mono (by decide)) rfl T.g_Lshows T.F_Lshows.kp T.b_Lshows (pa_cons (pv 2) (pa_cons (pv 3) (pa_cons (pv 1) pa_nil)))))))))
            (pss_one (ps_ret pe_bl))
            pss_nil)
          (pss_one (ps_if (pt_cmpR op_eq (pe_op op_mod (pv 6) pe_int) pe_int (nomark _))
            (pss_cons (ps_if (pt_mid (PW.pt (pw_or (pt_cmpR op_ne (pe_callB call_repr_bl (by rfl) T.m_repr (by decide +kernel) (pa_cons (pe_cmpR (op_eqOwn G_Renamer_eq (hr.mono (by decide)) T.me_Renamer_eq.at_ T.me_Renamer_eq.fn T.b_Renamer_eq) (pv 2) (pv 4) (nomark _)) pa_nil)) (pe_callB call_repr_bl (by rfl) T.m_repr (by decide +kernel) (pa_cons (pe_cmpR (op_eqD hr.units) (pe_call G_Ltold (hr.mono (by decide)) rfl T.g_Ltold T.F_Ltold.kp T.b_Ltold .nil pass0 (pa_cons (pv 3) pa_nil)) (pv 5) (nomark _)) pa_nil)) (nomark _)) (pw_or1 (pt_cmpR (op_eqOwnT G_Renamer_eq (hr.mono (by decide)) T.me_Renamer_eq.at_ T.me_Renamer_eq.fn T.b_Renamer_eq T.sl_Renamer) (pv 4) (pv 5) (nomark _))))))
              (pss_one (ps_ret pe_bl))
              pss_nil)
            (pss_one (ps_par (i := 4) (j := 5) rfl sc_Lright.nd rfl rfl (by decide) rfl rfl (pa_cons (pe_meth0 (pv 2) T.cl_Renamer T.me_Renamer_copy G_Renamer_copy (hr.mono (by decide)) T.b_Renamer_copy .nil pass0) (pa_cons (pe_call G_Ltold (hr.mono (by decide)) rfl T.g_Ltold T.F_Ltold.kp T.b_Ltold .nil pass0 (pa_cons (pv 3) pa_nil)) pa_nil)) (by rfl))))
            pss_nil))))))
        (pss_one (ps_ret (pe_cmpR (op_eqS hr.units) (pe_meth0 (pv 4) T.cl_Renamer T.me_Renamer_told G_Renamer_told (hr.mono (by decide)) T.b_Renamer_told .nil pass0) (pv 5) (nomark _)))))))), ?_⟩
    clear G_Ldraw G_Lbegun G_Renamer_init G_Renamer_copy G_Ltold G_Ldeed G_Lshows G_Ldone G_Renamer_told G_Renamer_eq
    clear hr hg
    walk_at "go"
    intro m0 H1 m1 m2 hO
    obtain ⟨m, em⟩ := Int.eq_ofNat_of_zero_le (show 0 ≤ 9 + m0 by omega)
    have hm : 9 ≤ m ∧ m ≤ 48 := by omega
    walk_at "go"
    simp only [em]
    walk_at "go"
    walk_at "mk"
    walk_at "go"
    intro n o f l c H2 hO
    walk_at "go"
    intro x2 n2 o2 f2 l2 c2 H3 hO
    have hk0 := (inv_s0 hm).ok
    walk_at "go"
    intro y dy n3 o3 f3 l3 c3 H4 P4 sp4 hO
    walk_at "go"
    intro t tw H5 P5 sp5 hO
    walk_at "go"
    refine ⟨for_range (n := ((30 : Int)).toNat) (fun i σ H' => Stop (∃ (S Se : RS) (words : List Int) (ws : List Wr) (y dy n3 o3 f3 l3 c3 t : Addr) (tw : List V) (t6 t7 t8 : Option V) (P2 : List Pf), σ = [some (.ref a), some (.int (m : Int)), some (.ref p1), some (.ref x2), some (.ref y), some (.ref t), t6, t7, t8, none, none, none] ∧
      Inv S m words ws ∧ BV S.cl ∧ Pf.tup t tw ∈ P2 ∧ Pf.dp [.ref t] [tdD Se] ∈ P2 ∧ Own K H' (pt a ++ (rn T.C_Renamer p1 p2 n o f l c S ++ (on x2 n2 o2 f2 l2 c2 S ++ (rn T.C_Renamer y dy n3 o3 f3 l3 c3 Se ++ [])))) P2))
      ⟨⟨s0 m, s0 m, List.replicate 8 0, [], y, dy, n3, o3, f3, l3, c3, t, tw, none, none, none, .tup t tw :: .dp [.ref t] [tdD (s0 m)] :: P5, rfl, inv_s0 hm, bv_s0 m, List.mem_cons_self, List.mem_cons_of_mem _ List.mem_cons_self, ?_⟩⟩ (fun i σ H' hi h => ?_) (fun σ H' h => ?_)⟩
    · walk_at "fin"
    · clear hO sp5 sp4
      obtain ⟨S, Se, words, ws, y, dy, n3, o3, f3, l3, c3, t, tw, t6, t7, t8, P2, rfl, hI, hB, ht1, ht2, hO⟩ := h.h
      clear h
      have hk := hI.ok
      have hlen := hI.len
      have hfl := hk.fl
      have len := hk.cl
      have ew : S.ld.map (wrD S) = ws.map pwD := by
        rw [hI.wr, List.map_map]
        rfl
      have b0 : atI [V.ref n2, V.ref o2, V.ref f2, V.ref l2, V.ref c2] 0 = some (V.ref n2) := rfl
      have b1 : atI [V.ref n2, V.ref o2, V.ref f2, V.ref l2, V.ref c2] 1 = some (V.ref o2) := rfl
      have b2 : atI [V.ref n2, V.ref o2, V.ref f2, V.ref l2, V.ref c2] 2 = some (V.ref f2) := rfl
      have b3 : atI [V.ref n2, V.ref o2, V.ref f2, V.ref l2, V.ref c2] 3 = some (V.ref l2) := rfl
      have b4 : atI [V.ref n2, V.ref o2, V.ref f2, V.ref l2, V.ref c2] 4 = some (V.ref c2) := rfl
      rw [Int.zero_add]
      simp only [on, List.cons_append, List.nil_append] at hO
      obtain ⟨ll, o1⟩ := hO.openL (a := l2) (ds := S.ld.map lnD) (List.mem_append.mpr (.inr (List.mem_append.mpr (.inr (by walk_at "mem")))))
      replace hO := o1 _ (by walk_at "setat")
      have hl2 := (hO.pdp (vs := ll) (by walk_at "mem")).len
      rw [List.length_map] at hl2
      clear o1
      walk_at "go"
      intro D hD
      refine lc_ownW (walk_list (xs := ll)) (S.ld.map (wrD S)) hO hD (by simp [hl2]) (by omega) (fun H L' P' s t h => SqL.of (h.raw (s _ (by walk_at "mem")))) (fun j v d H9 H' P' Q' hj hv hd sp hO kq => ?_) (fun H6 P6 sp6 hO => ?_)
      · obtain ⟨rfl, hv⟩ := hv
        rw [List.getElem?_map] at hd
        obtain ⟨r, hr, rfl⟩ := Option.map_eq_some_iff.mp hd
        obtain ⟨t0, rfl, ht0⟩ := dp_trip ((hO.pdp (sp _ (by walk_at "mem" : Pf.dp ll (S.ld.map lnD) ∈ _))).get' hv (by rw [List.getElem?_map, hr]; rfl))
        have br := hk.bl r (List.mem_of_getElem? hr)
        have ac := atO (ws := S.cl) (i := r.2.1.toNat) (by omega)
        rw [Int.toNat_of_nonneg br.2.1.1] at ac
        walk_at "go"
        exact kq _ _ _ (by walk_at "ps") hO (Dv1.tup (by walk_at "mem") (.cons (.int _) (.cons (Dv1.o _) .nil)))
      rw [ew] at hO
      replace hO := hO.dv (Dv.of (sp6 _ List.mem_cons_self))
      replace hO : Own K H6 (pt a ++ (rn T.C_Renamer p1 p2 n o f l c S ++ (on x2 n2 o2 f2 l2 c2 S ++ ((D, .L (ws.map pwD)) :: (rn T.C_Renamer y dy n3 o3 f3 l3 c3 Se ++ []))))) P6 := by
        simp only [on, List.cons_append, List.nil_append]
        exact Own.sub hO (by walk_at "sb") (Ps.skip Ps.refl)
      have hw8 : ws.length + 8 ≤ m := by omega
      walk_at "go"
      intro d dl H7 hd hO
      walk_at "go"
      intro S' H8 P8 hI2 hB2 sp8 hO
      generalize (stepW words ws d).1 = words' at hI2
      generalize (stepW words ws d).2 = ws' at hI2
      walk_at "go"
      intro H9 P9 sp9 hO
      have hp : Ps P2 P9 := fun q hq => sp9 q (sp8 q (sp6 q (List.mem_cons_of_mem _ hq)))
      have hk2 := hI2.ok
      walk_at "go"
      have S1 := td_sh S'
      have S2 := td_sh Se
      have Ow : ∀ {H : Hp} {P : List Pf} {L : List (Addr × Ob)}, Own K H L P → Own K H L P := fun h => h
      refine iteD (fun hc => ?_) (fun hc => ?_)
      · walk_at "go"
        refine Stop.mk ⟨fun b H' => Stop (b = false ∧ ∃ P3, Ps P9 P3 ∧ Own K H' (pt a ++ (rn T.C_Renamer p1 p2 n o f l c S' ++ (on x2 n2 o2 f2 l2 c2 S' ++ (rn T.C_Renamer y dy n3 o3 f3 l3 c3 Se ++ [])))) P3), ?_, fun b H10 hM => ?_⟩
        · walk_at "go"
          refine Or.inl ⟨dy, n3, o3, f3, l3, c3, Se, on x2 n2 o2 f2 l2 c2 S' ++ (pt a ++ ((D, .L (ws.map pwD)) :: [])), ?_, ?_⟩
          · walk_at "own"
          · intro H10 P10 sp10 hO
            walk_at "go"
            intro t2 tw2 H11 P11 sp11 hO
            have D1 := hO.pd1 (List.mem_cons_of_mem _ List.mem_cons_self)
            have D2 := hO.pd1 (List.mem_cons_of_mem _ (List.mem_cons_of_mem _ (sp11 _ (sp10 _ (hp _ ht2)))))
            replace hO := hO.derive (q := .tup t tw) (fun M h => h _ (List.mem_cons_of_mem _ (List.mem_cons_of_mem _ (sp11 _ (sp10 _ (hp _ ht1))))))
            walk_at "go"
            refine iteN (fun h => absurd rfl h) (fun _ => ?_)
            walk_at "go"
            refine Or.inr ⟨tw, hO.ptup List.mem_cons_self, ?_⟩
            walk_at "go"
            refine ⟨⟨rfl, P11, (fun q hq => sp11 q (sp10 q hq)), ?_⟩⟩
            walk_at "fin"
        obtain ⟨rfl, P10, sp10, hO⟩ := hM.h
        clear hM
        walk_at "go"
        intro y' dy' n4 o4 f4 l4 c4 H11 P11 sp11 hO
        walk_at "go"
        intro t' tw' H12 P12 sp12 hO
        walk_at "go"
        refine ⟨⟨S', S', words', ws', y', dy', n4, o4, f4, l4, c4, t', tw', _, _, _, .tup t' tw' :: .dp [.ref t'] [tdD S'] :: P12, rfl, hI2, hB2, List.mem_cons_self, List.mem_cons_of_mem _ List.mem_cons_self, ?_⟩⟩
        walk_at "fin"
      · walk_at "go"
        refine ⟨⟨S', Se, words', ws', y, dy, n3, o3, f3, l3, c3, t, tw, _, _, _, P9, rfl, hI2, hB2, hp _ ht1, hp _ ht2, ?_⟩⟩
        walk_at "fin"
    · obtain ⟨S, Se, words, ws, y, dy, n3, o3, f3, l3, c3, t, tw, t6, t7, t8, P2, rfl, hI, hB, ht1, ht2, hO⟩ := h.h
      clear h
      have S2 := td_sh Se
      walk_at "go"
      intro t9 H9 P9 sp9 hO
      have D1 := hO.pd1 List.mem_cons_self
      have D2 := hO.pd1 (List.mem_cons_of_mem _ (sp9 _ ht2))
      walk_at "go"
      exact k _
end
end K67

set_option Elab.async false
set_option linter.all false
set_option maxRecDepth 100000
set_option maxHeartbeats 8000000

namespace K67
open PySem PySem.Spec PyProof.Rows L2 Hx 
local macro_rules | `(tactic| walk_at "sm") => `(tactic| repeat' (first | assumption | apply Hx.Same.upd | exact L2.Same.refl _ | apply same_trans'))
local macro_rules | `(tactic| walk_at "hp") => `(tactic| repeat' (first | assumption | exact upd_same | apply old_upd | apply same_at))
local macro_rules | `(tactic| walk_at "rd") => `(tactic| repeat' (first | rfl | apply Exists.intro | apply And.intro | refine iteT ?_ | refine iteF ?_ | exact upd_same | exact SqL.of (by assumption) | exact SqL.of upd_same | exact SqT.of upd_same | exact SqT.of (by assumption) | ((with_reducible show (_ : Int) < _); omega) | ((with_reducible show (_ : Int) ≤ _); omega) | (show (_ : Prop); assumption) | exact Or.inl ⟨_, by assumption, rfl⟩ | exact Or.inl ⟨rfl, _, SqL.of (by assumption)⟩ | exact Or.inl ⟨rfl, _, SqL.of upd_same⟩ | apply old_upd | apply Hx.SqL.new | apply tyl_new | apply Pot.new | exact same_at (by assumption) (by assumption) | exact Or.inl (SqL.of (by assumption)) | exact Or.inl (by assumption) | exact Or.inl (SqL.of upd_same) | exact size_le (Nat.le_of_ble_eq_true rfl) | exact Nat.le_of_ble_eq_true rfl | exact True.intro | exact Or.inl rfl | exact Or.inr rfl | (show (_ : Prop); omega) | (show (_ : Prop); dsimp only; omega) | exact mulw64 (by omega) (by omega) | exact mulw64 (by (try dsimp only); omega) (by (try dsimp only); omega)))
set_option hygiene false in
local macro_rules | `(tactic| walk_at "fl") => `(tactic| simp only [pu_Renamer_new_map, pi_Renamer_new_map, pu_Renamer_old_map, pi_Renamer_old_map, pu_Renamer_free, pi_Renamer_free, pu_Renamer_lendings, pi_Renamer_lendings, pu_Renamer_cells, pi_Renamer_cells] at hO)
local macro_rules | `(tactic| walk_at "mem") => `(tactic| ((repeat (first | exact List.Mem.head _ | apply List.Mem.tail | fail)); done))
local macro_rules | `(tactic| walk_at "setat") => `(tactic| ((repeat (first | (with_reducible exact At.head) | (with_reducible apply At.tail) | (with_reducible apply At.app) | fail)); done))
set_option hygiene false in
local macro_rules | `(tactic| walk_at "dv") => `(tactic| ((repeat' (first | exact Dv.nil | exact Dv.of (by walk_at "mem") | exact Dv.ints _ | exact Dv1.of (by walk_at "mem") | exact Dv1.int _ | exact Dv1.non | exact Dv1.bl _ | exact Dv1.str _ | (with_reducible apply Dv.cons) | refine Dv1.tup (by walk_at "mem") ?_ | refine Dv1.lst (by walk_at "mem") ?_ | (with_reducible apply Dv.app) | fail)); done))
local macro_rules | `(tactic| walk_at "ft") => `(tactic| (first | (with_reducible exact Ft.refl) | ((with_reducible apply Ft.toL); focus walk_at "dv") | ((with_reducible apply Ft.toS); focus assumption) | (with_reducible apply Ft.lst) | (with_reducible apply Ft.Le) | (with_reducible apply Ft.dK) | (with_reducible apply Ft.De) | (with_reducible apply Ft.ins) | (with_reducible apply Ft.toL) | (with_reducible apply Ft.toS) | (with_reducible apply Ft.toD) | fail))
local macro_rules | `(tactic| walk_at "sbL") => `(tactic| repeat' (first | (with_reducible exact Sb.refl _) | exact Sb.nil | (with_reducible apply Sb.cons) | (with_reducible apply Sb.app) | (with_reducible exact Pk.one) | (with_reducible exact Pk.here) | (with_reducible exact Pk.all) | (with_reducible apply Pk.skip1) | (with_reducible apply Pk.skipB) | (with_reducible apply Sb.skip) | (with_reducible apply Sb.skipB) | ((with_reducible show Ft _ _ _ _); walk_at "ft") | ((with_reducible show (_ : List _) = _); (first | rfl | (simp [List.map_set, List.map_append]; done) | fail)) | fail))
local macro_rules | `(tactic| walk_at "sb") => `(tactic| ((walk_at "sbL"); done))
local macro_rules | `(tactic| walk_at "ps") => `(tactic| ((repeat' (first | (with_reducible exact Ps.refl) | exact Ps.nil | (with_reducible apply Ps.cons) | exact List.Mem.head _ | apply List.Mem.tail | (with_reducible apply Ps.skip) | fail)); done))
set_option hygiene false in
local macro_rules | `(tactic| walk_at "at") => `(tactic| first | assumption | exact Own.raw hO (by walk_at "mem") | exact Own.ptup hO (by walk_at "mem") | exact Own.plst hO (by walk_at "mem") | fail)
set_option hygiene false in
local macro_rules | `(tactic| walk_at "st") => `(tactic| (rw [upd_mkO hO]; generalize e : updX _ _ _ = H1; (first | ((apply Own.cset hO e); (focus walk_at "setat"); (try clear hO e); intro hO) | ((apply Own.cnewT hO e); (focus assumption); (try clear hO e); intro hO) | ((apply Own.cnew hO e); (focus assumption); (try clear hO e); intro hO) | fail)))
set_option hygiene false in
local macro_rules | `(tactic| walk_at "mk") => `(tactic| (intro p1 p2 f1 f2 f3; rw [upd_mkO hO]; generalize e : upd (updX _ _ _) _ _ = H1; apply Own.cmake hO f1 f2 f3 e; (try clear hO e); intro hO))
set_option hygiene false in
local macro_rules | `(tactic| walk_at "own") => `(tactic| (first | ((apply Own.sub hO); (focus walk_at "sb"); (focus walk_at "ps")) | ((apply Own.sub hF); (focus walk_at "sb"); (focus walk_at "ps")) | fail))
set_option hygiene false in
local macro_rules | `(tactic| walk_at "fin") => `(tactic| (refine Own.sub hO ?_ (by walk_at "ps"); walk_at "sbL"))
set_option hygiene false in
local macro_rules | `(tactic| walk_at "g1") => `(tactic| (first
 | ((with_reducible show (_ : Option HO) = _); walk_at "at")
 | ((with_reducible show (_ : Int) < _); omega) | ((with_reducible show (_ : Int) ≤ _); omega)
 | ((with_reducible show (_ : Nat) < _); (first | assumption | exact Nat.le_of_ble_eq_true rfl | exact size_lt (Nat.le_of_ble_eq_true rfl) | omega | (simp; done) | (simp; omega) | fail))
 | ((with_reducible show (_ : Nat) ≤ _); (first | assumption | exact Nat.le_of_ble_eq_true rfl | exact size_le (Nat.le_of_ble_eq_true rfl) | omega | (simp; done) | (simp; omega) | fail))
 | ((with_reducible show Own _ _ _ _); (first | walk_at "own" | (walk_at "st"; walk_at "own") | fail))
 | ((with_reducible show SqL _ _ _ _); (first | assumption | exact SqL.of (by walk_at "at") | fail))
 | ((with_reducible show SqT _ _ _ _); (first | assumption | exact hO.psq (by walk_at "mem") | exact SqT.of (by walk_at "at") | fail))
  | ((with_reducible show Cls _ _); exact Txt.cl_Renamer T) | ((with_reducible show NoAttr _ _ _); exact Txt.n_Renamer_new_map T) | (with_reducible exact gt_Renamer_new_map) | ((with_reducible show NoAttr _ _ _); exact Txt.n_Renamer_old_map T) | (with_reducible exact gt_Renamer_old_map) | ((with_reducible show NoAttr _ _ _); exact Txt.n_Renamer_free T) | (with_reducible exact gt_Renamer_free) | ((with_reducible show NoAttr _ _ _); exact Txt.n_Renamer_lendings T) | (with_reducible exact gt_Renamer_lendings) | ((with_reducible show NoAttr _ _ _); exact Txt.n_Renamer_cells T) | (with_reducible exact gt_Renamer_cells)
 | ((with_reducible show SqL _ _ _ _ ∨ SqT _ _ _ _); (first | exact Or.inl (SqL.of (by walk_at "at")) | exact Or.inr (SqT.of (by walk_at "at")) | fail))
 | ((with_reducible show Dp _ _ _ _); (first | assumption | exact hO.dpL (by walk_at "mem") | exact .lst (SqL.of (by walk_at "at")) (hO.all (by walk_at "dv")) | exact hO.one (by walk_at "dv") | fail))
 | ((with_reducible show TruV _ _ _ _); (first | exact Or.inl ⟨_, SqL.of (by walk_at "at"), rfl⟩ | exact Or.inr (Or.inr ⟨_, by walk_at "at", rfl⟩) | exact Or.inr (Or.inl ⟨_, SqT.of (by walk_at "at"), rfl⟩) | fail))
 | ((with_reducible show RgOk _ _); exact RgOk.of_le (by omega) (by omega) (by omega) (by omega))
 | rfl | (with_reducible assumption) | apply And.intro | apply Exists.intro | refine iteT ?_ | refine iteF ?_
 | (walk_at "st"; (try walk_at "fl"))
 | ((with_reducible show ∀ _ : Addr, _ = none → _); (fail_if_success (with_reducible show ∀ _ : Addr, _ = none → ∃ _ : Nat → Nat → Hp → Prop, _)); intro p fp; walk_at "st")
 | (refine Or.inl ⟨SqL.of (by walk_at "at"), ?_⟩) | (refine Or.inr ⟨SqT.of (by walk_at "at"), ?_⟩) | exact Or.inl ⟨_, by walk_at "at", rfl⟩ | exact Or.inl ⟨rfl, _, SqL.of (by walk_at "at")⟩ | exact tyl_of (by walk_at "at") | exact Or.inl (SqL.of (by walk_at "at")) | exact Or.inr (SqT.of (by walk_at "at")) | exact Or.inl (by walk_at "at") | exact size_le (Nat.le_of_ble_eq_true rfl) | exact Nat.le_of_ble_eq_true rfl | exact True.intro | exact Or.inl rfl | exact Or.inr rfl | (show (_ : Prop); assumption) | (show (_ : Prop); omega) | (show (_ : Prop); dsimp only; omega) | exact mulw64 (by omega) (by omega) | exact mulw64 (by (try dsimp only); omega) (by (try dsimp only); omega) | fail))
local macro_rules | `(tactic| walk_at "go") => `(tactic| repeat walk_at "g1")

section
variable {P : Program} {w : World} {K : PySem.W.Frag} {mg : Str → Option Value} {base : Heap}
def sp_law (K : PySem.W.Frag) : Sp := fun vs H Q _ => ∃ (a : Addr) (ns : List Int), vs = [.ref a] ∧ SqL K H a (ns.map V.int) ∧ ns.length ≤ 63 ∧ ∀ H', Q (.bl true) H'
theorem ok_law (T : Txt K mg) : FnG P w K mg base 9 T.f_law T.fd_law ["_law_script"] (sp_law K) := by
  have G_Lright := ok_Lright (P := P) (w := w) (base := base) T
  have G_Lpot := ok_Lpot (P := P) (w := w) (base := base) T
  refine fnG T.F_law sc_law (fun vs H Q E h => ?_) (fun cdv A outer s H vs Q E hr hg h => ?_)
  · obtain ⟨a, ns, rfl, hS, hl, k⟩ := h; rfl
  · obtain ⟨a, ns, rfl, hS, hl, k⟩ := h
    refine ⟨_, (pss_one (ps_ret (pe_callG (E := E0) hg G_Lright (hr.mono (by decide)) rfl T.g_Lright T.F_Lright.kp T.b_Lright (pa_cons (pe_call G_Lpot (hr.mono (by decide)) rfl T.g_Lpot T.F_Lpot.kp T.b_Lpot .nil pass0 (pa_cons (pv 0) (pa_cons pe_int pa_nil))) pa_nil)))), ?_⟩
    clear G_Lright G_Lpot
    clear hr hg
    walk_at "rd"
    intro p H' hO
    walk_at "go"
end
end K67

set_option Elab.async false
set_option linter.all false
set_option maxRecDepth 100000
set_option maxHeartbeats 8000000

namespace K67
open PySem PySem.Spec PyProof.Rows L2 Hx
theorem all_mk {l : PySem.W.OpenLaw} {w : World} {K : PySem.W.Frag} {h : Heap} {mg : Str → Option Value} {fa : Addr} (X : K.In h) (G : h.Ns mainGlobals mg) (hfa : mg "law" = some (.ref fa))
    {C_Renamer : Addr}
    {f_is_integer : Addr} {od_is_integer an_is_integer : Option Addr} {sl_is_integer : Array (Option Value)} {oc_is_integer kV_is_integer dc_is_integer pm_is_integer cd_is_integer ct_is_integer : Value}
    {f_is_between : Addr} {od_is_between an_is_between : Option Addr} {sl_is_between : Array (Option Value)} {oc_is_between kV_is_between dc_is_between pm_is_between cd_is_between ct_is_between : Value}
    {f_need_many : Addr} {od_need_many an_need_many : Option Addr} {sl_need_many : Array (Option Value)} {oc_need_many kV_need_many dc_need_many pm_need_many cd_need_many ct_need_many : Value}
    {f_is_word : Addr} {od_is_word an_is_word : Option Addr} {sl_is_word : Array (Option Value)} {oc_is_word kV_is_word dc_is_word pm_is_word cd_is_word ct_is_word : Value}
    {f_is_register : Addr} {od_is_register an_is_register : Option Addr} {sl_is_register : Array (Option Value)} {oc_is_register kV_is_register dc_is_register pm_is_register cd_is_register ct_is_register : Value}
    {f_need_word : Addr} {od_need_word an_need_word : Option Addr} {sl_need_word : Array (Option Value)} {oc_need_word kV_need_word dc_need_word pm_need_word cd_need_word ct_need_word : Value}
    {f_need_register : Addr} {od_need_register an_need_register : Option Addr} {sl_need_register : Array (Option Value)} {oc_need_register kV_need_register dc_need_register pm_need_register cd_need_register ct_need_register : Value}
    {f_Renamer_init : Addr} {od_Renamer_init an_Renamer_init : Option Addr} {sl_Renamer_init : Array (Option Value)} {oc_Renamer_init kV_Renamer_init dc_Renamer_init pm_Renamer_init cd_Renamer_init ct_Renamer_init : Value}
    {f_Renamer_place_of : Addr} {od_Renamer_place_of an_Renamer_place_of : Option Addr} {sl_Renamer_place_of : Array (Option Value)} {oc_Renamer_place_of kV_Renamer_place_of dc_Renamer_place_of pm_Renamer_place_of cd_Renamer_place_of ct_Renamer_place_of : Value}
    {f_Renamer_lent : Addr} {od_Renamer_lent an_Renamer_lent : Option Addr} {sl_Renamer_lent : Array (Option Value)} {oc_Renamer_lent kV_Renamer_lent dc_Renamer_lent pm_Renamer_lent cd_Renamer_lent ct_Renamer_lent : Value}
    {f_Renamer_put : Addr} {od_Renamer_put an_Renamer_put : Option Addr} {sl_Renamer_put : Array (Option Value)} {oc_Renamer_put kV_Renamer_put dc_Renamer_put pm_Renamer_put cd_Renamer_put ct_Renamer_put : Value}
    {f_Renamer_undone : Addr} {od_Renamer_undone an_Renamer_undone : Option Addr} {sl_Renamer_undone : Array (Option Value)} {oc_Renamer_undone kV_Renamer_undone dc_Renamer_undone pm_Renamer_undone cd_Renamer_undone ct_Renamer_undone : Value}
    {f_Renamer_kept : Addr} {od_Renamer_kept an_Renamer_kept : Option Addr} {sl_Renamer_kept : Array (Option Value)} {oc_Renamer_kept kV_Renamer_kept dc_Renamer_kept pm_Renamer_kept cd_Renamer_kept ct_Renamer_kept : Value}
    {f_Renamer_written : Addr} {od_Renamer_written an_Renamer_written : Option Addr} {sl_Renamer_written : Array (Option Value)} {oc_Renamer_written kV_Renamer_written dc_Renamer_written pm_Renamer_written cd_Renamer_written ct_Renamer_written : Value}
    {f_Renamer_lendings : Addr} {od_Renamer_lendings an_Renamer_lendings : Option Addr} {sl_Renamer_lendings : Array (Option Value)} {oc_Renamer_lendings kV_Renamer_lendings dc_Renamer_lendings pm_Renamer_lendings cd_Renamer_lendings ct_Renamer_lendings : Value}
    {f_Renamer_free : Addr} {od_Renamer_free an_Renamer_free : Option Addr} {sl_Renamer_free : Array (Option Value)} {oc_Renamer_free kV_Renamer_free dc_Renamer_free pm_Renamer_free cd_Renamer_free ct_Renamer_free : Value}
    {f_Renamer_told : Addr} {od_Renamer_told an_Renamer_told : Option Addr} {sl_Renamer_told : Array (Option Value)} {oc_Renamer_told kV_Renamer_told dc_Renamer_told pm_Renamer_told cd_Renamer_told ct_Renamer_told : Value}
    {f_Renamer_copy : Addr} {od_Renamer_copy an_Renamer_copy : Option Addr} {sl_Renamer_copy : Array (Option Value)} {oc_Renamer_copy kV_Renamer_copy dc_Renamer_copy pm_Renamer_copy cd_Renamer_copy ct_Renamer_copy : Value}
    {f_Renamer_eq : Addr} {od_Renamer_eq an_Renamer_eq : Option Addr} {sl_Renamer_eq : Array (Option Value)} {oc_Renamer_eq kV_Renamer_eq dc_Renamer_eq pm_Renamer_eq cd_Renamer_eq ct_Renamer_eq : Value}
    {f_Renamerneed_cell : Addr} {od_Renamerneed_cell an_Renamerneed_cell : Option Addr} {sl_Renamerneed_cell : Array (Option Value)} {oc_Renamerneed_cell kV_Renamerneed_cell dc_Renamerneed_cell pm_Renamerneed_cell cd_Renamerneed_cell ct_Renamerneed_cell : Value}
    {f_Renamerneed_lending : Addr} {od_Renamerneed_lending an_Renamerneed_lending : Option Addr} {sl_Renamerneed_lending : Array (Option Value)} {oc_Renamerneed_lending kV_Renamerneed_lending dc_Renamerneed_lending pm_Renamerneed_lending cd_Renamerneed_lending ct_Renamerneed_lending : Value}
    {f_Lpot : Addr} {od_Lpot an_Lpot : Option Addr} {sl_Lpot : Array (Option Value)} {oc_Lpot kV_Lpot dc_Lpot pm_Lpot cd_Lpot ct_Lpot : Value}
    {f_Ldraw : Addr} {od_Ldraw an_Ldraw : Option Addr} {sl_Ldraw : Array (Option Value)} {oc_Ldraw kV_Ldraw dc_Ldraw pm_Ldraw cd_Ldraw ct_Ldraw : Value}
    {f_Lpick : Addr} {od_Lpick an_Lpick : Option Addr} {sl_Lpick : Array (Option Value)} {oc_Lpick kV_Lpick dc_Lpick pm_Lpick cd_Lpick ct_Lpick : Value}
    {f_Ldeed : Addr} {od_Ldeed an_Ldeed : Option Addr} {sl_Ldeed : Array (Option Value)} {oc_Ldeed kV_Ldeed dc_Ldeed pm_Ldeed cd_Ldeed ct_Ldeed : Value}
    {f_Lbegun : Addr} {od_Lbegun an_Lbegun : Option Addr} {sl_Lbegun : Array (Option Value)} {oc_Lbegun kV_Lbegun dc_Lbegun pm_Lbegun cd_Lbegun ct_Lbegun : Value}
    {f_Llent : Addr} {od_Llent an_Llent : Option Addr} {sl_Llent : Array (Option Value)} {oc_Llent kV_Llent dc_Llent pm_Llent cd_Llent ct_Llent : Value}
    {f_Lundone : Addr} {od_Lundone an_Lundone : Option Addr} {sl_Lundone : Array (Option Value)} {oc_Lundone kV_Lundone dc_Lundone pm_Lundone cd_Lundone ct_Lundone : Value}
    {f_Lkept : Addr} {od_Lkept an_Lkept : Option Addr} {sl_Lkept : Array (Option Value)} {oc_Lkept kV_Lkept dc_Lkept pm_Lkept cd_Lkept ct_Lkept : Value}
    {f_Ldone : Addr} {od_Ldone an_Ldone : Option Addr} {sl_Ldone : Array (Option Value)} {oc_Ldone kV_Ldone dc_Ldone pm_Ldone cd_Ldone ct_Ldone : Value}
    {f_Ltold : Addr} {od_Ltold an_Ltold : Option Addr} {sl_Ltold : Array (Option Value)} {oc_Ltold kV_Ltold dc_Ltold pm_Ltold cd_Ltold ct_Ltold : Value}
    {f_Lshows : Addr} {od_Lshows an_Lshows : Option Addr} {sl_Lshows : Array (Option Value)} {oc_Lshows kV_Lshows dc_Lshows pm_Lshows cd_Lshows ct_Lshows : Value}
    {f_Lright : Addr} {od_Lright an_Lright : Option Addr} {sl_Lright : Array (Option Value)} {oc_Lright kV_Lright dc_Lright pm_Lright cd_Lright ct_Lright : Value}
    {f_law : Addr} {od_law an_law : Option Addr} {sl_law : Array (Option Value)} {oc_law kV_law dc_law pm_law cd_law ct_law : Value}
    {t_WORDS : Tok}
    {t_REGISTERS : Tok}
    {t__LEAST_CELLS : Tok}
    {t__MOST_CELLS : Tok}
    
    (aC_Renamer : PySem.W.nsIn K mainGlobals "Renamer" = some (some (.ref C_Renamer))) (pg_Renamer : PySem.W.plainGet K C_Renamer Str.empty = true) (hd_Renamer : PySem.W.hasDictIn K C_Renamer = true) (po_Renamer : PySem.W.plainOver K C_Renamer = true) (sa_Renamer : PySem.W.findIn K (.ref C_Renamer) "__setattr__" = some (some (.builtin "object.__setattr__"))) (mk_Renamer : PySem.W.makesIn K C_Renamer = true) (kc_Renamer : PySem.W.keepIn K (.ref C_Renamer) = true)
    (n_Renamer_new_map : PySem.W.findIn K (.ref C_Renamer) "_new_map" = some none)
    (n_Renamer_old_map : PySem.W.findIn K (.ref C_Renamer) "_old_map" = some none)
    (n_Renamer_free : PySem.W.findIn K (.ref C_Renamer) "_free" = some none)
    (n_Renamer_lendings : PySem.W.findIn K (.ref C_Renamer) "_lendings" = some none)
    (n_Renamer_cells : PySem.W.findIn K (.ref C_Renamer) "_cells" = some none)
    (a_is_integer : PySem.W.nsIn K mainGlobals "is_integer" = some (some (.ref f_is_integer)))
    (l_is_integer : K.lookup f_is_integer = some ⟨oc_is_integer, od_is_integer, .func (PySem.W.fnOf "is_integer" "is_integer" (defArgs s_is_integer) (defBody s_is_integer) (defScope s_is_integer) .none kV_is_integer dc_is_integer pm_is_integer an_is_integer cd_is_integer ct_is_integer), sl_is_integer⟩)
    (c_is_integer : PySem.W.codeIn K cd_is_integer "is_integer" = true) (k_is_integer : PySem.W.keepIn K (.ref f_is_integer) = true)
    (a_is_between : PySem.W.nsIn K mainGlobals "is_between" = some (some (.ref f_is_between)))
    (l_is_between : K.lookup f_is_between = some ⟨oc_is_between, od_is_between, .func (PySem.W.fnOf "is_between" "is_between" (defArgs s_is_between) (defBody s_is_between) (defScope s_is_between) .none kV_is_between dc_is_between pm_is_between an_is_between cd_is_between ct_is_between), sl_is_between⟩)
    (c_is_between : PySem.W.codeIn K cd_is_between "is_between" = true) (k_is_between : PySem.W.keepIn K (.ref f_is_between) = true)
    (a_need_many : PySem.W.nsIn K mainGlobals "need_many" = some (some (.ref f_need_many)))
    (l_need_many : K.lookup f_need_many = some ⟨oc_need_many, od_need_many, .func (PySem.W.fnOf "need_many" "need_many" (defArgs s_need_many) (defBody s_need_many) (defScope s_need_many) .none kV_need_many dc_need_many pm_need_many an_need_many cd_need_many ct_need_many), sl_need_many⟩)
    (c_need_many : PySem.W.codeIn K cd_need_many "need_many" = true) (k_need_many : PySem.W.keepIn K (.ref f_need_many) = true)
    (a_is_word : PySem.W.nsIn K mainGlobals "is_word" = some (some (.ref f_is_word)))
    (l_is_word : K.lookup f_is_word = some ⟨oc_is_word, od_is_word, .func (PySem.W.fnOf "is_word" "is_word" (defArgs s_is_word) (defBody s_is_word) (defScope s_is_word) .none kV_is_word dc_is_word pm_is_word an_is_word cd_is_word ct_is_word), sl_is_word⟩)
    (c_is_word : PySem.W.codeIn K cd_is_word "is_word" = true) (k_is_word : PySem.W.keepIn K (.ref f_is_word) = true)
    (a_is_register : PySem.W.nsIn K mainGlobals "is_register" = some (some (.ref f_is_register)))
    (l_is_register : K.lookup f_is_register = some ⟨oc_is_register, od_is_register, .func (PySem.W.fnOf "is_register" "is_register" (defArgs s_is_register) (defBody s_is_register) (defScope s_is_register) .none kV_is_register dc_is_register pm_is_register an_is_register cd_is_register ct_is_register), sl_is_register⟩)
    (c_is_register : PySem.W.codeIn K cd_is_register "is_register" = true) (k_is_register : PySem.W.keepIn K (.ref f_is_register) = true)
    (a_need_word : PySem.W.nsIn K mainGlobals "need_word" = some (some (.ref f_need_word)))
    (l_need_word : K.lookup f_need_word = some ⟨oc_need_word, od_need_word, .func (PySem.W.fnOf "need_word" "need_word" (defArgs s_need_word) (defBody s_need_word) (defScope s_need_word) .none kV_need_word dc_need_word pm_need_word an_need_word cd_need_word ct_need_word), sl_need_word⟩)
    (c_need_word : PySem.W.codeIn K cd_need_word "need_word" = true) (k_need_word : PySem.W.keepIn K (.ref f_need_word) = true)
    (a_need_register : PySem.W.nsIn K mainGlobals "need_register" = some (some (.ref f_need_register)))
    (l_need_register : K.lookup f_need_register = some ⟨oc_need_register, od_need_register, .func (PySem.W.fnOf "need_register" "need_register" (defArgs s_need_register) (defBody s_need_register) (defScope s_need_register) .none kV_need_register dc_need_register pm_need_register an_need_register cd_need_register ct_need_register), sl_need_register⟩)
    (c_need_register : PySem.W.codeIn K cd_need_register "need_register" = true) (k_need_register : PySem.W.keepIn K (.ref f_need_register) = true)
    (a_Renamer_init : PySem.W.findIn K (.ref C_Renamer) "__init__" = some (some (.ref f_Renamer_init)))
    (i_Renamer_init : PySem.W.isFn K (.ref f_Renamer_init) = true)
    (l_Renamer_init : K.lookup f_Renamer_init = some ⟨oc_Renamer_init, od_Renamer_init, .func (PySem.W.fnOf "__init__" "Renamer.__init__" (defArgs s_Renamer_init) (defBody s_Renamer_init) (defScope s_Renamer_init) .none kV_Renamer_init dc_Renamer_init pm_Renamer_init an_Renamer_init cd_Renamer_init ct_Renamer_init), sl_Renamer_init⟩)
    (c_Renamer_init : PySem.W.codeIn K cd_Renamer_init "Renamer.__init__" = true) (k_Renamer_init : PySem.W.keepIn K (.ref f_Renamer_init) = true)
    (a_Renamer_place_of : PySem.W.findIn K (.ref C_Renamer) "place_of" = some (some (.ref f_Renamer_place_of)))
    (i_Renamer_place_of : PySem.W.isFn K (.ref f_Renamer_place_of) = true)
    (l_Renamer_place_of : K.lookup f_Renamer_place_of = some ⟨oc_Renamer_place_of, od_Renamer_place_of, .func (PySem.W.fnOf "place_of" "Renamer.place_of" (defArgs s_Renamer_place_of) (defBody s_Renamer_place_of) (defScope s_Renamer_place_of) .none kV_Renamer_place_of dc_Renamer_place_of pm_Renamer_place_of an_Renamer_place_of cd_Renamer_place_of ct_Renamer_place_of), sl_Renamer_place_of⟩)
    (c_Renamer_place_of : PySem.W.codeIn K cd_Renamer_place_of "Renamer.place_of" = true) (k_Renamer_place_of : PySem.W.keepIn K (.ref f_Renamer_place_of) = true)
    (a_Renamer_lent : PySem.W.findIn K (.ref C_Renamer) "lent" = some (some (.ref f_Renamer_lent)))
    (i_Renamer_lent : PySem.W.isFn K (.ref f_Renamer_lent) = true)
    (l_Renamer_lent : K.lookup f_Renamer_lent = some ⟨oc_Renamer_lent, od_Renamer_lent, .func (PySem.W.fnOf "lent" "Renamer.lent" (defArgs s_Renamer_lent) (defBody s_Renamer_lent) (defScope s_Renamer_lent) .none kV_Renamer_lent dc_Renamer_lent pm_Renamer_lent an_Renamer_lent cd_Renamer_lent ct_Renamer_lent), sl_Renamer_lent⟩)
    (c_Renamer_lent : PySem.W.codeIn K cd_Renamer_lent "Renamer.lent" = true) (k_Renamer_lent : PySem.W.keepIn K (.ref f_Renamer_lent) = true)
    (a_Renamer_put : PySem.W.findIn K (.ref C_Renamer) "put" = some (some (.ref f_Renamer_put)))
    (i_Renamer_put : PySem.W.isFn K (.ref f_Renamer_put) = true)
    (l_Renamer_put : K.lookup f_Renamer_put = some ⟨oc_Renamer_put, od_Renamer_put, .func (PySem.W.fnOf "put" "Renamer.put" (defArgs s_Renamer_put) (defBody s_Renamer_put) (defScope s_Renamer_put) .none kV_Renamer_put dc_Renamer_put pm_Renamer_put an_Renamer_put cd_Renamer_put ct_Renamer_put), sl_Renamer_put⟩)
    (c_Renamer_put : PySem.W.codeIn K cd_Renamer_put "Renamer.put" = true) (k_Renamer_put : PySem.W.keepIn K (.ref f_Renamer_put) = true)
    (a_Renamer_undone : PySem.W.findIn K (.ref C_Renamer) "undone" = some (some (.ref f_Renamer_undone)))
    (i_Renamer_undone : PySem.W.isFn K (.ref f_Renamer_undone) = true)
    (l_Renamer_undone : K.lookup f_Renamer_undone = some ⟨oc_Renamer_undone, od_Renamer_undone, .func (PySem.W.fnOf "undone" "Renamer.undone" (defArgs s_Renamer_undone) (defBody s_Renamer_undone) (defScope s_Renamer_undone) .none kV_Renamer_undone dc_Renamer_undone pm_Renamer_undone an_Renamer_undone cd_Renamer_undone ct_Renamer_undone), sl_Renamer_undone⟩)
    (c_Renamer_undone : PySem.W.codeIn K cd_Renamer_undone "Renamer.undone" = true) (k_Renamer_undone : PySem.W.keepIn K (.ref f_Renamer_undone) = true)
    (a_Renamer_kept : PySem.W.findIn K (.ref C_Renamer) "kept" = some (some (.ref f_Renamer_kept)))
    (i_Renamer_kept : PySem.W.isFn K (.ref f_Renamer_kept) = true)
    (l_Renamer_kept : K.lookup f_Renamer_kept = some ⟨oc_Renamer_kept, od_Renamer_kept, .func (PySem.W.fnOf "kept" "Renamer.kept" (defArgs s_Renamer_kept) (defBody s_Renamer_kept) (defScope s_Renamer_kept) .none kV_Renamer_kept dc_Renamer_kept pm_Renamer_kept an_Renamer_kept cd_Renamer_kept ct_Renamer_kept), sl_Renamer_kept⟩)
    (c_Renamer_kept : PySem.W.codeIn K cd_Renamer_kept "Renamer.kept" = true) (k_Renamer_kept : PySem.W.keepIn K (.ref f_Renamer_kept) = true)
    (a_Renamer_written : PySem.W.findIn K (.ref C_Renamer) "written" = some (some (.ref f_Renamer_written)))
    (i_Renamer_written : PySem.W.isFn K (.ref f_Renamer_written) = true)
    (l_Renamer_written : K.lookup f_Renamer_written = some ⟨oc_Renamer_written, od_Renamer_written, .func (PySem.W.fnOf "written" "Renamer.written" (defArgs s_Renamer_written) (defBody s_Renamer_written) (defScope s_Renamer_written) .none kV_Renamer_written dc_Renamer_written pm_Renamer_written an_Renamer_written cd_Renamer_written ct_Renamer_written), sl_Renamer_written⟩)
    (c_Renamer_written : PySem.W.codeIn K cd_Renamer_written "Renamer.written" = true) (k_Renamer_written : PySem.W.keepIn K (.ref f_Renamer_written) = true)
    (a_Renamer_lendings : PySem.W.findIn K (.ref C_Renamer) "lendings" = some (some (.ref f_Renamer_lendings)))
    (i_Renamer_lendings : PySem.W.isFn K (.ref f_Renamer_lendings) = true)
    (l_Renamer_lendings : K.lookup f_Renamer_lendings = some ⟨oc_Renamer_lendings, od_Renamer_lendings, .func (PySem.W.fnOf "lendings" "Renamer.lendings" (defArgs s_Renamer_lendings) (defBody s_Renamer_lendings) (defScope s_Renamer_lendings) .none kV_Renamer_lendings dc_Renamer_lendings pm_Renamer_lendings an_Renamer_lendings cd_Renamer_lendings ct_Renamer_lendings), sl_Renamer_lendings⟩)
    (c_Renamer_lendings : PySem.W.codeIn K cd_Renamer_lendings "Renamer.lendings" = true) (k_Renamer_lendings : PySem.W.keepIn K (.ref f_Renamer_lendings) = true)
    (a_Renamer_free : PySem.W.findIn K (.ref C_Renamer) "free" = some (some (.ref f_Renamer_free)))
    (i_Renamer_free : PySem.W.isFn K (.ref f_Renamer_free) = true)
    (l_Renamer_free : K.lookup f_Renamer_free = some ⟨oc_Renamer_free, od_Renamer_free, .func (PySem.W.fnOf "free" "Renamer.free" (defArgs s_Renamer_free) (defBody s_Renamer_free) (defScope s_Renamer_free) .none kV_Renamer_free dc_Renamer_free pm_Renamer_free an_Renamer_free cd_Renamer_free ct_Renamer_free), sl_Renamer_free⟩)
    (c_Renamer_free : PySem.W.codeIn K cd_Renamer_free "Renamer.free" = true) (k_Renamer_free : PySem.W.keepIn K (.ref f_Renamer_free) = true)
    (a_Renamer_told : PySem.W.findIn K (.ref C_Renamer) "told" = some (some (.ref f_Renamer_told)))
    (i_Renamer_told : PySem.W.isFn K (.ref f_Renamer_told) = true)
    (l_Renamer_told : K.lookup f_Renamer_told = some ⟨oc_Renamer_told, od_Renamer_told, .func (PySem.W.fnOf "told" "Renamer.told" (defArgs s_Renamer_told) (defBody s_Renamer_told) (defScope s_Renamer_told) .none kV_Renamer_told dc_Renamer_told pm_Renamer_told an_Renamer_told cd_Renamer_told ct_Renamer_told), sl_Renamer_told⟩)
    (c_Renamer_told : PySem.W.codeIn K cd_Renamer_told "Renamer.told" = true) (k_Renamer_told : PySem.W.keepIn K (.ref f_Renamer_told) = true)
    (a_Renamer_copy : PySem.W.findIn K (.ref C_Renamer) "copy" = some (some (.ref f_Renamer_copy)))
    (i_Renamer_copy : PySem.W.isFn K (.ref f_Renamer_copy) = true)
    (l_Renamer_copy : K.lookup f_Renamer_copy = some ⟨oc_Renamer_copy, od_Renamer_copy, .func (PySem.W.fnOf "copy" "Renamer.copy" (defArgs s_Renamer_copy) (defBody s_Renamer_copy) (defScope s_Renamer_copy) .none kV_Renamer_copy dc_Renamer_copy pm_Renamer_copy an_Renamer_copy cd_Renamer_copy ct_Renamer_copy), sl_Renamer_copy⟩)
    (c_Renamer_copy : PySem.W.codeIn K cd_Renamer_copy "Renamer.copy" = true) (k_Renamer_copy : PySem.W.keepIn K (.ref f_Renamer_copy) = true)
    (a_Renamer_eq : PySem.W.findIn K (.ref C_Renamer) "__eq__" = some (some (.ref f_Renamer_eq)))
    (i_Renamer_eq : PySem.W.isFn K (.ref f_Renamer_eq) = true)
    (l_Renamer_eq : K.lookup f_Renamer_eq = some ⟨oc_Renamer_eq, od_Renamer_eq, .func (PySem.W.fnOf "__eq__" "Renamer.__eq__" (defArgs s_Renamer_eq) (defBody s_Renamer_eq) (defScope s_Renamer_eq) .none kV_Renamer_eq dc_Renamer_eq pm_Renamer_eq an_Renamer_eq cd_Renamer_eq ct_Renamer_eq), sl_Renamer_eq⟩)
    (c_Renamer_eq : PySem.W.codeIn K cd_Renamer_eq "Renamer.__eq__" = true) (k_Renamer_eq : PySem.W.keepIn K (.ref f_Renamer_eq) = true)
    (a_Renamerneed_cell : PySem.W.findIn K (.ref C_Renamer) "_need_cell" = some (some (.ref f_Renamerneed_cell)))
    (i_Renamerneed_cell : PySem.W.isFn K (.ref f_Renamerneed_cell) = true)
    (l_Renamerneed_cell : K.lookup f_Renamerneed_cell = some ⟨oc_Renamerneed_cell, od_Renamerneed_cell, .func (PySem.W.fnOf "_need_cell" "Renamer._need_cell" (defArgs s_Renamerneed_cell) (defBody s_Renamerneed_cell) (defScope s_Renamerneed_cell) .none kV_Renamerneed_cell dc_Renamerneed_cell pm_Renamerneed_cell an_Renamerneed_cell cd_Renamerneed_cell ct_Renamerneed_cell), sl_Renamerneed_cell⟩)
    (c_Renamerneed_cell : PySem.W.codeIn K cd_Renamerneed_cell "Renamer._need_cell" = true) (k_Renamerneed_cell : PySem.W.keepIn K (.ref f_Renamerneed_cell) = true)
    (a_Renamerneed_lending : PySem.W.findIn K (.ref C_Renamer) "_need_lending" = some (some (.ref f_Renamerneed_lending)))
    (i_Renamerneed_lending : PySem.W.isFn K (.ref f_Renamerneed_lending) = true)
    (l_Renamerneed_lending : K.lookup f_Renamerneed_lending = some ⟨oc_Renamerneed_lending, od_Renamerneed_lending, .func (PySem.W.fnOf "_need_lending" "Renamer._need_lending" (defArgs s_Renamerneed_lending) (defBody s_Renamerneed_lending) (defScope s_Renamerneed_lending) .none kV_Renamerneed_lending dc_Renamerneed_lending pm_Renamerneed_lending an_Renamerneed_lending cd_Renamerneed_lending ct_Renamerneed_lending), sl_Renamerneed_lending⟩)
    (c_Renamerneed_lending : PySem.W.codeIn K cd_Renamerneed_lending "Renamer._need_lending" = true) (k_Renamerneed_lending : PySem.W.keepIn K (.ref f_Renamerneed_lending) = true)
    (a_Lpot : PySem.W.nsIn K mainGlobals "_law_pot" = some (some (.ref f_Lpot)))
    (l_Lpot : K.lookup f_Lpot = some ⟨oc_Lpot, od_Lpot, .func (PySem.W.fnOf "_law_pot" "_law_pot" (defArgs s_Lpot) (defBody s_Lpot) (defScope s_Lpot) .none kV_Lpot dc_Lpot pm_Lpot an_Lpot cd_Lpot ct_Lpot), sl_Lpot⟩)
    (c_Lpot : PySem.W.codeIn K cd_Lpot "_law_pot" = true) (k_Lpot : PySem.W.keepIn K (.ref f_Lpot) = true)
    (a_Ldraw : PySem.W.nsIn K mainGlobals "_law_draw" = some (some (.ref f_Ldraw)))
    (l_Ldraw : K.lookup f_Ldraw = some ⟨oc_Ldraw, od_Ldraw, .func (PySem.W.fnOf "_law_draw" "_law_draw" (defArgs s_Ldraw) (defBody s_Ldraw) (defScope s_Ldraw) .none kV_Ldraw dc_Ldraw pm_Ldraw an_Ldraw cd_Ldraw ct_Ldraw), sl_Ldraw⟩)
    (c_Ldraw : PySem.W.codeIn K cd_Ldraw "_law_draw" = true) (k_Ldraw : PySem.W.keepIn K (.ref f_Ldraw) = true)
    (a_Lpick : PySem.W.nsIn K mainGlobals "_law_pick" = some (some (.ref f_Lpick)))
    (l_Lpick : K.lookup f_Lpick = some ⟨oc_Lpick, od_Lpick, .func (PySem.W.fnOf "_law_pick" "_law_pick" (defArgs s_Lpick) (defBody s_Lpick) (defScope s_Lpick) .none kV_Lpick dc_Lpick pm_Lpick an_Lpick cd_Lpick ct_Lpick), sl_Lpick⟩)
    (c_Lpick : PySem.W.codeIn K cd_Lpick "_law_pick" = true) (k_Lpick : PySem.W.keepIn K (.ref f_Lpick) = true)
    (a_Ldeed : PySem.W.nsIn K mainGlobals "_law_deed" = some (some (.ref f_Ldeed)))
    (l_Ldeed : K.lookup f_Ldeed = some ⟨oc_Ldeed, od_Ldeed, .func (PySem.W.fnOf "_law_deed" "_law_deed" (defArgs s_Ldeed) (defBody s_Ldeed) (defScope s_Ldeed) .none kV_Ldeed dc_Ldeed pm_Ldeed an_Ldeed cd_Ldeed ct_Ldeed), sl_Ldeed⟩)
    (c_Ldeed : PySem.W.codeIn K cd_Ldeed "_law_deed" = true) (k_Ldeed : PySem.W.keepIn K (.ref f_Ldeed) = true)
    (a_Lbegun : PySem.W.nsIn K mainGlobals "_law_begun" = some (some (.ref f_Lbegun)))
    (l_Lbegun : K.lookup f_Lbegun = some ⟨oc_Lbegun, od_Lbegun, .func (PySem.W.fnOf "_law_begun" "_law_begun" (defArgs s_Lbegun) (defBody s_Lbegun) (defScope s_Lbegun) .none kV_Lbegun dc_Lbegun pm_Lbegun an_Lbegun cd_Lbegun ct_Lbegun), sl_Lbegun⟩)
    (c_Lbegun : PySem.W.codeIn K cd_Lbegun "_law_begun" = true) (k_Lbegun : PySem.W.keepIn K (.ref f_Lbegun) = true)
    (a_Llent : PySem.W.nsIn K mainGlobals "_law_lent" = some (some (.ref f_Llent)))
    (l_Llent : K.lookup f_Llent = some ⟨oc_Llent, od_Llent, .func (PySem.W.fnOf "_law_lent" "_law_lent" (defArgs s_Llent) (defBody s_Llent) (defScope s_Llent) .none kV_Llent dc_Llent pm_Llent an_Llent cd_Llent ct_Llent), sl_Llent⟩)
    (c_Llent : PySem.W.codeIn K cd_Llent "_law_lent" = true) (k_Llent : PySem.W.keepIn K (.ref f_Llent) = true)
    (a_Lundone : PySem.W.nsIn K mainGlobals "_law_undone" = some (some (.ref f_Lundone)))
    (l_Lundone : K.lookup f_Lundone = some ⟨oc_Lundone, od_Lundone, .func (PySem.W.fnOf "_law_undone" "_law_undone" (defArgs s_Lundone) (defBody s_Lundone) (defScope s_Lundone) .none kV_Lundone dc_Lundone pm_Lundone an_Lundone cd_Lundone ct_Lundone), sl_Lundone⟩)
    (c_Lundone : PySem.W.codeIn K cd_Lundone "_law_undone" = true) (k_Lundone : PySem.W.keepIn K (.ref f_Lundone) = true)
    (a_Lkept : PySem.W.nsIn K mainGlobals "_law_kept" = some (some (.ref f_Lkept)))
    (l_Lkept : K.lookup f_Lkept = some ⟨oc_Lkept, od_Lkept, .func (PySem.W.fnOf "_law_kept" "_law_kept" (defArgs s_Lkept) (defBody s_Lkept) (defScope s_Lkept) .none kV_Lkept dc_Lkept pm_Lkept an_Lkept cd_Lkept ct_Lkept), sl_Lkept⟩)
    (c_Lkept : PySem.W.codeIn K cd_Lkept "_law_kept" = true) (k_Lkept : PySem.W.keepIn K (.ref f_Lkept) = true)
    (a_Ldone : PySem.W.nsIn K mainGlobals "_law_done" = some (some (.ref f_Ldone)))
    (l_Ldone : K.lookup f_Ldone = some ⟨oc_Ldone, od_Ldone, .func (PySem.W.fnOf "_law_done" "_law_done" (defArgs s_Ldone) (defBody s_Ldone) (defScope s_Ldone) .none kV_Ldone dc_Ldone pm_Ldone an_Ldone cd_Ldone ct_Ldone), sl_Ldone⟩)
    (c_Ldone : PySem.W.codeIn K cd_Ldone "_law_done" = true) (k_Ldone : PySem.W.keepIn K (.ref f_Ldone) = true)
    (a_Ltold : PySem.W.nsIn K mainGlobals "_law_told" = some (some (.ref f_Ltold)))
    (l_Ltold : K.lookup f_Ltold = some ⟨oc_Ltold, od_Ltold, .func (PySem.W.fnOf "_law_told" "_law_told" (defArgs s_Ltold) (defBody s_Ltold) (defScope s_Ltold) .none kV_Ltold dc_Ltold pm_Ltold an_Ltold cd_Ltold ct_Ltold), sl_Ltold⟩)
    (c_Ltold : PySem.W.codeIn K cd_Ltold "_law_told" = true) (k_Ltold : PySem.W.keepIn K (.ref f_Ltold) = true)
    (a_Lshows : PySem.W.nsIn K mainGlobals "_law_shows" = some (some (.ref f_Lshows)))
    (l_Lshows : K.lookup f_Lshows = some ⟨oc_Lshows, od_Lshows, .func (PySem.W.fnOf "_law_shows" "_law_shows" (defArgs s_Lshows) (defBody s_Lshows) (defScope s_Lshows) .none kV_Lshows dc_Lshows pm_Lshows an_Lshows cd_Lshows ct_Lshows), sl_Lshows⟩)
    (c_Lshows : PySem.W.codeIn K cd_Lshows "_law_shows" = true) (k_Lshows : PySem.W.keepIn K (.ref f_Lshows) = true)
    (a_Lright : PySem.W.nsIn K mainGlobals "_law_right" = some (some (.ref f_Lright)))
    (l_Lright : K.lookup f_Lright = some ⟨oc_Lright, od_Lright, .func (PySem.W.fnOf "_law_right" "_law_right" (defArgs s_Lright) (defBody s_Lright) (defScope s_Lright) .none kV_Lright dc_Lright pm_Lright an_Lright cd_Lright ct_Lright), sl_Lright⟩)
    (c_Lright : PySem.W.codeIn K cd_Lright "_law_right" = true) (k_Lright : PySem.W.keepIn K (.ref f_Lright) = true)
    (a_law : PySem.W.nsIn K mainGlobals "law" = some (some (.ref f_law)))
    (l_law : K.lookup f_law = some ⟨oc_law, od_law, .func (PySem.W.fnOf "law" "law" (defArgs s_law) (defBody s_law) (defScope s_law) .none kV_law dc_law pm_law an_law cd_law ct_law), sl_law⟩)
    (c_law : PySem.W.codeIn K cd_law "law" = true) (k_law : PySem.W.keepIn K (.ref f_law) = true)
    (z_abs : PySem.W.nsIn K mainGlobals "abs" = some none)
    (z_bool : PySem.W.nsIn K mainGlobals "bool" = some none)
    (z_divmod : PySem.W.nsIn K mainGlobals "divmod" = some none)
    (z_enumerate : PySem.W.nsIn K mainGlobals "enumerate" = some none)
    (z_int : PySem.W.nsIn K mainGlobals "int" = some none)
    (z_isinstance : PySem.W.nsIn K mainGlobals "isinstance" = some none)
    (z_len : PySem.W.nsIn K mainGlobals "len" = some none)
    (z_list : PySem.W.nsIn K mainGlobals "list" = some none)
    (z_max : PySem.W.nsIn K mainGlobals "max" = some none)
    (z_range : PySem.W.nsIn K mainGlobals "range" = some none)
    (z_repr : PySem.W.nsIn K mainGlobals "repr" = some none)
    (z_sorted : PySem.W.nsIn K mainGlobals "sorted" = some none)
    (z_tuple : PySem.W.nsIn K mainGlobals "tuple" = some none)
    (x_WORDS : PySem.W.nsIn K mainGlobals "WORDS" = some (some (.int 65536 t_WORDS)))
    (x_REGISTERS : PySem.W.nsIn K mainGlobals "REGISTERS" = some (some (.int 8 t_REGISTERS)))
    (x__LEAST_CELLS : PySem.W.nsIn K mainGlobals "_LEAST_CELLS" = some (some (.int 9 t__LEAST_CELLS)))
    (x__MOST_CELLS : PySem.W.nsIn K mainGlobals "_MOST_CELLS" = some (some (.int 48 t__MOST_CELLS)))
    (ic_Renamer : PySem.W.findIn K (.ref C_Renamer) "__class__" = some (some (.builtin "object.__class__"))) (in_Renamer : PySem.W.specialIn K (.builtin "object.__class__") "__get__" = some (some (.builtin "getset_descriptor.__get__"))) (it_Renamer : PySem.W.takesIn K (.builtin "object.__class__") = some true) (im_Renamer : PySem.W.mroIn K C_Renamer (.type "object") = some true) (sl_Renamer : PySem.W.subIn K (.type "tuple") (.ref C_Renamer) = some false) (ik_Renamer : PySem.W.isClsIn K C_Renamer = true) (ty_Renamer : PySem.W.typeIn K (.ref C_Renamer) = some (.type "type"))
    : ∃ fd : FuncData, (∀ (s : Shared) (v : Value), BindsTo s fd ⟨[v], []⟩ [("_law_script", v)]) ∧ ∀ base : Heap, K.In base → base.Ns mainGlobals mg → FnG l.prog w K mg base 9 fa fd ["_law_script"] (sp_law K) := by
  have e := hfa.symm.trans (PySem.W.mg_of X G a_law)
  cases e
  let T : Txt K mg := {
    C_Renamer := C_Renamer, cl_Renamer := ⟨pg_Renamer, hd_Renamer, po_Renamer, sa_Renamer⟩, g_Renamer := PySem.W.mg_of X G aC_Renamer,
    n_Renamer_new_map := n_Renamer_new_map,
    n_Renamer_old_map := n_Renamer_old_map,
    n_Renamer_free := n_Renamer_free,
    n_Renamer_lendings := n_Renamer_lendings,
    n_Renamer_cells := n_Renamer_cells,
    f_is_integer := _, fd_is_integer := _, F_is_integer := fun_mk (st := s_is_integer) l_is_integer c_is_integer k_is_integer,
    g_is_integer := PySem.W.mg_of X G a_is_integer,
    b_is_integer := (fun_mk (st := s_is_integer) l_is_integer c_is_integer k_is_integer).binds (ps := ["value"]) fun _ _ _ _ _ _ us hl => match us, hl with | [_], _ => rfl,
    f_is_between := _, fd_is_between := _, F_is_between := fun_mk (st := s_is_between) l_is_between c_is_between k_is_between,
    g_is_between := PySem.W.mg_of X G a_is_between,
    b_is_between := (fun_mk (st := s_is_between) l_is_between c_is_between k_is_between).binds (ps := ["value", "least", "most"]) fun _ _ _ _ _ _ us hl => match us, hl with | [_, _, _], _ => rfl,
    f_need_many := _, fd_need_many := _, F_need_many := fun_mk (st := s_need_many) l_need_many c_need_many k_need_many,
    g_need_many := PySem.W.mg_of X G a_need_many,
    b_need_many := (fun_mk (st := s_need_many) l_need_many c_need_many k_need_many).binds (ps := ["value", "least", "most"]) fun _ _ _ _ _ _ us hl => match us, hl with | [_, _, _], _ => rfl,
    f_is_word := _, fd_is_word := _, F_is_word := fun_mk (st := s_is_word) l_is_word c_is_word k_is_word,
    g_is_word := PySem.W.mg_of X G a_is_word,
    b_is_word := (fun_mk (st := s_is_word) l_is_word c_is_word k_is_word).binds (ps := ["value"]) fun _ _ _ _ _ _ us hl => match us, hl with | [_], _ => rfl,
    f_is_register := _, fd_is_register := _, F_is_register := fun_mk (st := s_is_register) l_is_register c_is_register k_is_register,
    g_is_register := PySem.W.mg_of X G a_is_register,
    b_is_register := (fun_mk (st := s_is_register) l_is_register c_is_register k_is_register).binds (ps := ["value"]) fun _ _ _ _ _ _ us hl => match us, hl with | [_], _ => rfl,
    f_need_word := _, fd_need_word := _, F_need_word := fun_mk (st := s_need_word) l_need_word c_need_word k_need_word,
    g_need_word := PySem.W.mg_of X G a_need_word,
    b_need_word := (fun_mk (st := s_need_word) l_need_word c_need_word k_need_word).binds (ps := ["value"]) fun _ _ _ _ _ _ us hl => match us, hl with | [_], _ => rfl,
    f_need_register := _, fd_need_register := _, F_need_register := fun_mk (st := s_need_register) l_need_register c_need_register k_need_register,
    g_need_register := PySem.W.mg_of X G a_need_register,
    b_need_register := (fun_mk (st := s_need_register) l_need_register c_need_register k_need_register).binds (ps := ["value"]) fun _ _ _ _ _ _ us hl => match us, hl with | [_], _ => rfl,
    mk_Renamer := ⟨mk_Renamer, a_Renamer_init, i_Renamer_init, kc_Renamer⟩,
    f_Renamer_init := _, fd_Renamer_init := _, F_Renamer_init := fun_mk (st := s_Renamer_init) l_Renamer_init c_Renamer_init k_Renamer_init,
    b_Renamer_init := (fun_mk (st := s_Renamer_init) l_Renamer_init c_Renamer_init k_Renamer_init).binds (ps := ["self", "many"]) fun _ _ _ _ _ _ us hl => match us, hl with | [_, _], _ => rfl,
    me_Renamer_place_of := ⟨a_Renamer_place_of, i_Renamer_place_of, k_Renamer_place_of⟩,
    f_Renamer_place_of := _, fd_Renamer_place_of := _, F_Renamer_place_of := fun_mk (st := s_Renamer_place_of) l_Renamer_place_of c_Renamer_place_of k_Renamer_place_of,
    b_Renamer_place_of := (fun_mk (st := s_Renamer_place_of) l_Renamer_place_of c_Renamer_place_of k_Renamer_place_of).binds (ps := ["self", "which"]) fun _ _ _ _ _ _ us hl => match us, hl with | [_, _], _ => rfl,
    me_Renamer_lent := ⟨a_Renamer_lent, i_Renamer_lent, k_Renamer_lent⟩,
    f_Renamer_lent := _, fd_Renamer_lent := _, F_Renamer_lent := fun_mk (st := s_Renamer_lent) l_Renamer_lent c_Renamer_lent k_Renamer_lent,
    b_Renamer_lent := (fun_mk (st := s_Renamer_lent) l_Renamer_lent c_Renamer_lent k_Renamer_lent).binds (ps := ["self", "which"]) fun _ _ _ _ _ _ us hl => match us, hl with | [_, _], _ => rfl,
    me_Renamer_put := ⟨a_Renamer_put, i_Renamer_put, k_Renamer_put⟩,
    f_Renamer_put := _, fd_Renamer_put := _, F_Renamer_put := fun_mk (st := s_Renamer_put) l_Renamer_put c_Renamer_put k_Renamer_put,
    b_Renamer_put := (fun_mk (st := s_Renamer_put) l_Renamer_put c_Renamer_put k_Renamer_put).binds (ps := ["self", "at", "value"]) fun _ _ _ _ _ _ us hl => match us, hl with | [_, _, _], _ => rfl,
    me_Renamer_undone := ⟨a_Renamer_undone, i_Renamer_undone, k_Renamer_undone⟩,
    f_Renamer_undone := _, fd_Renamer_undone := _, F_Renamer_undone := fun_mk (st := s_Renamer_undone) l_Renamer_undone c_Renamer_undone k_Renamer_undone,
    b_Renamer_undone := (fun_mk (st := s_Renamer_undone) l_Renamer_undone c_Renamer_undone k_Renamer_undone).binds (ps := ["self", "which", "new", "old"]) fun _ _ _ _ _ _ us hl => match us, hl with | [_, _, _, _], _ => rfl,
    kp_Renamer_undone_1_210 := kw_bindsP (fun_mk (st := s_Renamer_undone) l_Renamer_undone c_Renamer_undone k_Renamer_undone) (by decide) fun _ _ _ _ _ _ us ws h1 h2 => match us, ws, h1, h2 with | [_], [_, _, _], _, _ => rfl,
    me_Renamer_kept := ⟨a_Renamer_kept, i_Renamer_kept, k_Renamer_kept⟩,
    f_Renamer_kept := _, fd_Renamer_kept := _, F_Renamer_kept := fun_mk (st := s_Renamer_kept) l_Renamer_kept c_Renamer_kept k_Renamer_kept,
    b_Renamer_kept := (fun_mk (st := s_Renamer_kept) l_Renamer_kept c_Renamer_kept k_Renamer_kept).binds (ps := ["self", "which", "new", "old"]) fun _ _ _ _ _ _ us hl => match us, hl with | [_, _, _, _], _ => rfl,
    me_Renamer_written := ⟨a_Renamer_written, i_Renamer_written, k_Renamer_written⟩,
    f_Renamer_written := _, fd_Renamer_written := _, F_Renamer_written := fun_mk (st := s_Renamer_written) l_Renamer_written c_Renamer_written k_Renamer_written,
    b_Renamer_written := (fun_mk (st := s_Renamer_written) l_Renamer_written c_Renamer_written k_Renamer_written).binds (ps := ["self", "which", "value"]) fun _ _ _ _ _ _ us hl => match us, hl with | [_, _, _], _ => rfl,
    kbr_Renamer_written := kw_bindsR (fun_mk (st := s_Renamer_written) l_Renamer_written c_Renamer_written k_Renamer_written) rfl fun _ _ _ _ _ _ _ _ _ => rfl,
    me_Renamer_lendings := ⟨a_Renamer_lendings, i_Renamer_lendings, k_Renamer_lendings⟩,
    f_Renamer_lendings := _, fd_Renamer_lendings := _, F_Renamer_lendings := fun_mk (st := s_Renamer_lendings) l_Renamer_lendings c_Renamer_lendings k_Renamer_lendings,
    b_Renamer_lendings := (fun_mk (st := s_Renamer_lendings) l_Renamer_lendings c_Renamer_lendings k_Renamer_lendings).binds (ps := ["self"]) fun _ _ _ _ _ _ us hl => match us, hl with | [_], _ => rfl,
    me_Renamer_free := ⟨a_Renamer_free, i_Renamer_free, k_Renamer_free⟩,
    f_Renamer_free := _, fd_Renamer_free := _, F_Renamer_free := fun_mk (st := s_Renamer_free) l_Renamer_free c_Renamer_free k_Renamer_free,
    b_Renamer_free := (fun_mk (st := s_Renamer_free) l_Renamer_free c_Renamer_free k_Renamer_free).binds (ps := ["self"]) fun _ _ _ _ _ _ us hl => match us, hl with | [_], _ => rfl,
    me_Renamer_told := ⟨a_Renamer_told, i_Renamer_told, k_Renamer_told⟩,
    f_Renamer_told := _, fd_Renamer_told := _, F_Renamer_told := fun_mk (st := s_Renamer_told) l_Renamer_told c_Renamer_told k_Renamer_told,
    b_Renamer_told := (fun_mk (st := s_Renamer_told) l_Renamer_told c_Renamer_told k_Renamer_told).binds (ps := ["self"]) fun _ _ _ _ _ _ us hl => match us, hl with | [_], _ => rfl,
    me_Renamer_copy := ⟨a_Renamer_copy, i_Renamer_copy, k_Renamer_copy⟩,
    f_Renamer_copy := _, fd_Renamer_copy := _, F_Renamer_copy := fun_mk (st := s_Renamer_copy) l_Renamer_copy c_Renamer_copy k_Renamer_copy,
    b_Renamer_copy := (fun_mk (st := s_Renamer_copy) l_Renamer_copy c_Renamer_copy k_Renamer_copy).binds (ps := ["self"]) fun _ _ _ _ _ _ us hl => match us, hl with | [_], _ => rfl,
    me_Renamer_eq := ⟨a_Renamer_eq, i_Renamer_eq, k_Renamer_eq⟩,
    f_Renamer_eq := _, fd_Renamer_eq := _, F_Renamer_eq := fun_mk (st := s_Renamer_eq) l_Renamer_eq c_Renamer_eq k_Renamer_eq,
    b_Renamer_eq := (fun_mk (st := s_Renamer_eq) l_Renamer_eq c_Renamer_eq k_Renamer_eq).binds (ps := ["self", "other"]) fun _ _ _ _ _ _ us hl => match us, hl with | [_, _], _ => rfl,
    me_Renamerneed_cell := ⟨a_Renamerneed_cell, i_Renamerneed_cell, k_Renamerneed_cell⟩,
    f_Renamerneed_cell := _, fd_Renamerneed_cell := _, F_Renamerneed_cell := fun_mk (st := s_Renamerneed_cell) l_Renamerneed_cell c_Renamerneed_cell k_Renamerneed_cell,
    b_Renamerneed_cell := (fun_mk (st := s_Renamerneed_cell) l_Renamerneed_cell c_Renamerneed_cell k_Renamerneed_cell).binds (ps := ["self", "value"]) fun _ _ _ _ _ _ us hl => match us, hl with | [_, _], _ => rfl,
    me_Renamerneed_lending := ⟨a_Renamerneed_lending, i_Renamerneed_lending, k_Renamerneed_lending⟩,
    f_Renamerneed_lending := _, fd_Renamerneed_lending := _, F_Renamerneed_lending := fun_mk (st := s_Renamerneed_lending) l_Renamerneed_lending c_Renamerneed_lending k_Renamerneed_lending,
    b_Renamerneed_lending := (fun_mk (st := s_Renamerneed_lending) l_Renamerneed_lending c_Renamerneed_lending k_Renamerneed_lending).binds (ps := ["self", "which", "new", "old"]) fun _ _ _ _ _ _ us hl => match us, hl with | [_, _, _, _], _ => rfl,
    f_Lpot := _, fd_Lpot := _, F_Lpot := fun_mk (st := s_Lpot) l_Lpot c_Lpot k_Lpot,
    g_Lpot := PySem.W.mg_of X G a_Lpot,
    b_Lpot := (fun_mk (st := s_Lpot) l_Lpot c_Lpot k_Lpot).binds (ps := ["_law_script", "_law_k"]) fun _ _ _ _ _ _ us hl => match us, hl with | [_, _], _ => rfl,
    f_Ldraw := _, fd_Ldraw := _, F_Ldraw := fun_mk (st := s_Ldraw) l_Ldraw c_Ldraw k_Ldraw,
    g_Ldraw := PySem.W.mg_of X G a_Ldraw,
    b_Ldraw := (fun_mk (st := s_Ldraw) l_Ldraw c_Ldraw k_Ldraw).binds (ps := ["_law_pot_here", "_law_size"]) fun _ _ _ _ _ _ us hl => match us, hl with | [_, _], _ => rfl,
    f_Lpick := _, fd_Lpick := _, F_Lpick := fun_mk (st := s_Lpick) l_Lpick c_Lpick k_Lpick,
    g_Lpick := PySem.W.mg_of X G a_Lpick,
    b_Lpick := (fun_mk (st := s_Lpick) l_Lpick c_Lpick k_Lpick).binds (ps := ["_law_pot_here", "_law_some"]) fun _ _ _ _ _ _ us hl => match us, hl with | [_, _], _ => rfl,
    f_Ldeed := _, fd_Ldeed := _, F_Ldeed := fun_mk (st := s_Ldeed) l_Ldeed c_Ldeed k_Ldeed,
    g_Ldeed := PySem.W.mg_of X G a_Ldeed,
    b_Ldeed := (fun_mk (st := s_Ldeed) l_Ldeed c_Ldeed k_Ldeed).binds (ps := ["_law_pot_here", "_law_many", "_law_writes"]) fun _ _ _ _ _ _ us hl => match us, hl with | [_, _, _], _ => rfl,
    f_Lbegun := _, fd_Lbegun := _, F_Lbegun := fun_mk (st := s_Lbegun) l_Lbegun c_Lbegun k_Lbegun,
    g_Lbegun := PySem.W.mg_of X G a_Lbegun,
    b_Lbegun := (fun_mk (st := s_Lbegun) l_Lbegun c_Lbegun k_Lbegun).binds (ps := ["_law_many"]) fun _ _ _ _ _ _ us hl => match us, hl with | [_], _ => rfl,
    f_Llent := _, fd_Llent := _, F_Llent := fun_mk (st := s_Llent) l_Llent c_Llent k_Llent,
    g_Llent := PySem.W.mg_of X G a_Llent,
    b_Llent := (fun_mk (st := s_Llent) l_Llent c_Llent k_Llent).binds (ps := ["_law_own", "_law_which"]) fun _ _ _ _ _ _ us hl => match us, hl with | [_, _], _ => rfl,
    f_Lundone := _, fd_Lundone := _, F_Lundone := fun_mk (st := s_Lundone) l_Lundone c_Lundone k_Lundone,
    g_Lundone := PySem.W.mg_of X G a_Lundone,
    b_Lundone := (fun_mk (st := s_Lundone) l_Lundone c_Lundone k_Lundone).binds (ps := ["_law_own"]) fun _ _ _ _ _ _ us hl => match us, hl with | [_], _ => rfl,
    f_Lkept := _, fd_Lkept := _, F_Lkept := fun_mk (st := s_Lkept) l_Lkept c_Lkept k_Lkept,
    g_Lkept := PySem.W.mg_of X G a_Lkept,
    b_Lkept := (fun_mk (st := s_Lkept) l_Lkept c_Lkept k_Lkept).binds (ps := ["_law_own"]) fun _ _ _ _ _ _ us hl => match us, hl with | [_], _ => rfl,
    f_Ldone := _, fd_Ldone := _, F_Ldone := fun_mk (st := s_Ldone) l_Ldone c_Ldone k_Ldone,
    g_Ldone := PySem.W.mg_of X G a_Ldone,
    b_Ldone := (fun_mk (st := s_Ldone) l_Ldone c_Ldone k_Ldone).binds (ps := ["_law_renamer", "_law_own", "_law_deed_here"]) fun _ _ _ _ _ _ us hl => match us, hl with | [_, _, _], _ => rfl,
    f_Ltold := _, fd_Ltold := _, F_Ltold := fun_mk (st := s_Ltold) l_Ltold c_Ltold k_Ltold,
    g_Ltold := PySem.W.mg_of X G a_Ltold,
    b_Ltold := (fun_mk (st := s_Ltold) l_Ltold c_Ltold k_Ltold).binds (ps := ["_law_own"]) fun _ _ _ _ _ _ us hl => match us, hl with | [_], _ => rfl,
    f_Lshows := _, fd_Lshows := _, F_Lshows := fun_mk (st := s_Lshows) l_Lshows c_Lshows k_Lshows,
    g_Lshows := PySem.W.mg_of X G a_Lshows,
    b_Lshows := (fun_mk (st := s_Lshows) l_Lshows c_Lshows k_Lshows).binds (ps := ["_law_renamer", "_law_own", "_law_many"]) fun _ _ _ _ _ _ us hl => match us, hl with | [_, _, _], _ => rfl,
    f_Lright := _, fd_Lright := _, F_Lright := fun_mk (st := s_Lright) l_Lright c_Lright k_Lright,
    g_Lright := PySem.W.mg_of X G a_Lright,
    b_Lright := (fun_mk (st := s_Lright) l_Lright c_Lright k_Lright).binds (ps := ["_law_pot_here"]) fun _ _ _ _ _ _ us hl => match us, hl with | [_], _ => rfl,
    f_law := _, fd_law := _, F_law := fun_mk (st := s_law) l_law c_law k_law,
    g_law := PySem.W.mg_of X G a_law,
    b_law := (fun_mk (st := s_law) l_law c_law k_law).binds (ps := ["_law_script"]) fun _ _ _ _ _ _ us hl => match us, hl with | [_], _ => rfl,
    m_abs := PySem.W.mg_none_of X G z_abs,
    m_bool := PySem.W.mg_none_of X G z_bool,
    m_divmod := PySem.W.mg_none_of X G z_divmod,
    m_enumerate := PySem.W.mg_none_of X G z_enumerate,
    m_int := PySem.W.mg_none_of X G z_int,
    m_isinstance := PySem.W.mg_none_of X G z_isinstance,
    m_len := PySem.W.mg_none_of X G z_len,
    m_list := PySem.W.mg_none_of X G z_list,
    m_max := PySem.W.mg_none_of X G z_max,
    m_range := PySem.W.mg_none_of X G z_range,
    m_repr := PySem.W.mg_none_of X G z_repr,
    m_sorted := PySem.W.mg_none_of X G z_sorted,
    m_tuple := PySem.W.mg_none_of X G z_tuple,
    c_WORDS := ⟨_, PySem.W.mg_of X G x_WORDS⟩,
    c_REGISTERS := ⟨_, PySem.W.mg_of X G x_REGISTERS⟩,
    c__LEAST_CELLS := ⟨_, PySem.W.mg_of X G x__LEAST_CELLS⟩,
    c__MOST_CELLS := ⟨_, PySem.W.mg_of X G x__MOST_CELLS⟩,
    ic_Renamer := ic_Renamer,
    in_Renamer := in_Renamer,
    it_Renamer := it_Renamer,
    im_Renamer := im_Renamer,
    sl_Renamer := sl_Renamer,
    ik_Renamer := ik_Renamer,
    ty_Renamer := ty_Renamer }
  exact ⟨_, fun s v => .of_eq rfl, fun base _ _ => ok_law (P := l.prog) (w := w) (base := base) T⟩
theorem walk {l : PySem.W.OpenLaw} {q : Program} {loose : List Str} {XP : (Str → Option Value) → Heap → Prop} {YP : World → Heap → Prop} {d : DefRec} {K : Params → PySem.W.Frag} (hn : l.most = some 63) (hdf : d.params.defaults = [])
    (hY : ∀ (w : World) (h : Heap), YP w h → (K w.params).In h)
    (F : ∀ (w : World) (mg : Str → Option Value) (fa : Addr) (h : Heap), (K w.params).In h → h.Ns mainGlobals mg → mg d.name = some (.ref fa) →
      ∃ fd : FuncData, (∀ (s : Shared) (u : Value), BindsTo s fd ⟨[u], []⟩ [("_law_script", u)]) ∧ ∀ base : Heap, (K w.params).In base → base.Ns mainGlobals mg → FnG l.prog w (K w.params) mg base 9 fa fd ["_law_script"] (sp_law (K w.params))) :
    PySem.W.WalkO q loose XP YP l.row.toRowW d [] (fun f vs => PySem.call f vs) :=
  walk_ofG (n := 63) (k := 9) (x := "_law_script") (sp := fun w => sp_law (K w.params)) hn (by decide) hdf ⟨rfl, by decide, by decide⟩ hY F (fun _ _ a ns hl _ hS => ⟨a, ns, rfl, hS, hl, fun _ => rfl⟩)
end K67
open PySem PySem.W PyProof.Rows
set_option maxRecDepth 100000 in
set_option maxHeartbeats 0 in
theorem PySem.Challenge.cw_orderlycore_k67_whole_cells_lent_and_bac_holds : PySem.Challenge.rw_orderlycore_k67_whole_cells_lent_and_bac.Holds := by
  w_on; o_law; k_head; (case hw => w_witness2)
  k_fill
  refine K67.walk (l := PySem.Challenge.rw_orderlycore_k67_whole_cells_lent_and_bac) rfl rfl (fun w h Y => PySem.W.kIn_of Y) ?F
  case F =>
    intro w mg fa h KX G hmg
    refine' K67.all_mk KX G hmg ?aC_Renamer ?pg_Renamer ?hd_Renamer ?po_Renamer ?sa_Renamer ?mk_Renamer ?kc_Renamer ?n_Renamer_new_map ?n_Renamer_old_map ?n_Renamer_free ?n_Renamer_lendings ?n_Renamer_cells ?a_is_integer ?l_is_integer ?c_is_integer ?k_is_integer ?a_is_between ?l_is_between ?c_is_between ?k_is_between ?a_need_many ?l_need_many ?c_need_many ?k_need_many ?a_is_word ?l_is_word ?c_is_word ?k_is_word ?a_is_register ?l_is_register ?c_is_register ?k_is_register ?a_need_word ?l_need_word ?c_need_word ?k_need_word ?a_need_register ?l_need_register ?c_need_register ?k_need_register ?a_Renamer_init ?i_Renamer_init ?l_Renamer_init ?c_Renamer_init ?k_Renamer_init ?a_Renamer_place_of ?i_Renamer_place_of ?l_Renamer_place_of ?c_Renamer_place_of ?k_Renamer_place_of ?a_Renamer_lent ?i_Renamer_lent ?l_Renamer_lent ?c_Renamer_lent ?k_Renamer_lent ?a_Renamer_put ?i_Renamer_put ?l_Renamer_put ?c_Renamer_put ?k_Renamer_put ?a_Renamer_undone ?i_Renamer_undone ?l_Renamer_undone ?c_Renamer_undone ?k_Renamer_undone ?a_Renamer_kept ?i_Renamer_kept ?l_Renamer_kept ?c_Renamer_kept ?k_Renamer_kept ?a_Renamer_written ?i_Renamer_written ?l_Renamer_written ?c_Renamer_written ?k_Renamer_written ?a_Renamer_lendings ?i_Renamer_lendings ?l_Renamer_lendings ?c_Renamer_lendings ?k_Renamer_lendings ?a_Renamer_free ?i_Renamer_free ?l_Renamer_free ?c_Renamer_free ?k_Renamer_free ?a_Renamer_told ?i_Renamer_told ?l_Renamer_told ?c_Renamer_told ?k_Renamer_told ?a_Renamer_copy ?i_Renamer_copy ?l_Renamer_copy ?c_Renamer_copy ?k_Renamer_copy ?a_Renamer_eq ?i_Renamer_eq ?l_Renamer_eq ?c_Renamer_eq ?k_Renamer_eq ?a_Renamerneed_cell ?i_Renamerneed_cell ?l_Renamerneed_cell ?c_Renamerneed_cell ?k_Renamerneed_cell ?a_Renamerneed_lending ?i_Renamerneed_lending ?l_Renamerneed_lending ?c_Renamerneed_lending ?k_Renamerneed_lending ?a_Lpot ?l_Lpot ?c_Lpot ?k_Lpot ?a_Ldraw ?l_Ldraw ?c_Ldraw ?k_Ldraw ?a_Lpick ?l_Lpick ?c_Lpick ?k_Lpick ?a_Ldeed ?l_Ldeed ?c_Ldeed ?k_Ldeed ?a_Lbegun ?l_Lbegun ?c_Lbegun ?k_Lbegun ?a_Llent ?l_Llent ?c_Llent ?k_Llent ?a_Lundone ?l_Lundone ?c_Lundone ?k_Lundone ?a_Lkept ?l_Lkept ?c_Lkept ?k_Lkept ?a_Ldone ?l_Ldone ?c_Ldone ?k_Ldone ?a_Ltold ?l_Ltold ?c_Ltold ?k_Ltold ?a_Lshows ?l_Lshows ?c_Lshows ?k_Lshows ?a_Lright ?l_Lright ?c_Lright ?k_Lright ?a_law ?l_law ?c_law ?k_law ?z_abs ?z_bool ?z_divmod ?z_enumerate ?z_int ?z_isinstance ?z_len ?z_list ?z_max ?z_range ?z_repr ?z_sorted ?z_tuple ?x_WORDS ?x_REGISTERS ?x__LEAST_CELLS ?x__MOST_CELLS ?ic_Renamer ?in_Renamer ?it_Renamer ?im_Renamer ?sl_Renamer ?ik_Renamer ?ty_Renamer
    (case aC_Renamer => k_is)
    (case pg_Renamer => k_is)
    (case hd_Renamer => k_is)
    (case po_Renamer => k_is)
    (case sa_Renamer => k_is)
    (case mk_Renamer => k_is)
    (case kc_Renamer => k_is)
    (case n_Renamer_new_map => k_is)
    (case n_Renamer_old_map => k_is)
    (case n_Renamer_free => k_is)
    (case n_Renamer_lendings => k_is)
    (case n_Renamer_cells => k_is)
    (case a_is_integer => k_is)
    (case l_is_integer => k_is)
    (case c_is_integer => k_is)
    (case k_is_integer => k_is)
    (case a_is_between => k_is)
    (case l_is_between => k_is)
    (case c_is_between => k_is)
    (case k_is_between => k_is)
    (case a_need_many => k_is)
    (case l_need_many => k_is)
    (case c_need_many => k_is)
    (case k_need_many => k_is)
    (case a_is_word => k_is)
    (case l_is_word => k_is)
    (case c_is_word => k_is)
    (case k_is_word => k_is)
    (case a_is_register => k_is)
    (case l_is_register => k_is)
    (case c_is_register => k_is)
    (case k_is_register => k_is)
    (case a_need_word => k_is)
    (case l_need_word => k_is)
    (case c_need_word => k_is)
    (case k_need_word => k_is)
    (case a_need_register => k_is)
    (case l_need_register => k_is)
    (case c_need_register => k_is)
    (case k_need_register => k_is)
    (case a_Renamer_init => k_is)
    (case i_Renamer_init => k_is)
    (case l_Renamer_init => k_is)
    (case c_Renamer_init => k_is)
    (case k_Renamer_init => k_is)
    (case a_Renamer_place_of => k_is)
    (case i_Renamer_place_of => k_is)
    (case l_Renamer_place_of => k_is)
    (case c_Renamer_place_of => k_is)
    (case k_Renamer_place_of => k_is)
    (case a_Renamer_lent => k_is)
    (case i_Renamer_lent => k_is)
    (case l_Renamer_lent => k_is)
    (case c_Renamer_lent => k_is)
    (case k_Renamer_lent => k_is)
    (case a_Renamer_put => k_is)
    (case i_Renamer_put => k_is)
    (case l_Renamer_put => k_is)
    (case c_Renamer_put => k_is)
    (case k_Renamer_put => k_is)
    (case a_Renamer_undone => k_is)
    (case i_Renamer_undone => k_is)
    (case l_Renamer_undone => k_is)
    (case c_Renamer_undone => k_is)
    (case k_Renamer_undone => k_is)
    (case a_Renamer_kept => k_is)
    (case i_Renamer_kept => k_is)
    (case l_Renamer_kept => k_is)
    (case c_Renamer_kept => k_is)
    (case k_Renamer_kept => k_is)
    (case a_Renamer_written => k_is)
    (case i_Renamer_written => k_is)
    (case l_Renamer_written => k_is)
    (case c_Renamer_written => k_is)
    (case k_Renamer_written => k_is)
    (case a_Renamer_lendings => k_is)
    (case i_Renamer_lendings => k_is)
    (case l_Renamer_lendings => k_is)
    (case c_Renamer_lendings => k_is)
    (case k_Renamer_lendings => k_is)
    (case a_Renamer_free => k_is)
    (case i_Renamer_free => k_is)
    (case l_Renamer_free => k_is)
    (case c_Renamer_free => k_is)
    (case k_Renamer_free => k_is)
    (case a_Renamer_told => k_is)
    (case i_Renamer_told => k_is)
    (case l_Renamer_told => k_is)
    (case c_Renamer_told => k_is)
    (case k_Renamer_told => k_is)
    (case a_Renamer_copy => k_is)
    (case i_Renamer_copy => k_is)
    (case l_Renamer_copy => k_is)
    (case c_Renamer_copy => k_is)
    (case k_Renamer_copy => k_is)
    (case a_Renamer_eq => k_is)
    (case i_Renamer_eq => k_is)
    (case l_Renamer_eq => k_is)
    (case c_Renamer_eq => k_is)
    (case k_Renamer_eq => k_is)
    (case a_Renamerneed_cell => k_is)
    (case i_Renamerneed_cell => k_is)
    (case l_Renamerneed_cell => k_is)
    (case c_Renamerneed_cell => k_is)
    (case k_Renamerneed_cell => k_is)
    (case a_Renamerneed_lending => k_is)
    (case i_Renamerneed_lending => k_is)
    (case l_Renamerneed_lending => k_is)
    (case c_Renamerneed_lending => k_is)
    (case k_Renamerneed_lending => k_is)
    (case a_Lpot => k_is)
    (case l_Lpot => k_is)
    (case c_Lpot => k_is)
    (case k_Lpot => k_is)
    (case a_Ldraw => k_is)
    (case l_Ldraw => k_is)
    (case c_Ldraw => k_is)
    (case k_Ldraw => k_is)
    (case a_Lpick => k_is)
    (case l_Lpick => k_is)
    (case c_Lpick => k_is)
    (case k_Lpick => k_is)
    (case a_Ldeed => k_is)
    (case l_Ldeed => k_is)
    (case c_Ldeed => k_is)
    (case k_Ldeed => k_is)
    (case a_Lbegun => k_is)
    (case l_Lbegun => k_is)
    (case c_Lbegun => k_is)
    (case k_Lbegun => k_is)
    (case a_Llent => k_is)
    (case l_Llent => k_is)
    (case c_Llent => k_is)
    (case k_Llent => k_is)
    (case a_Lundone => k_is)
    (case l_Lundone => k_is)
    (case c_Lundone => k_is)
    (case k_Lundone => k_is)
    (case a_Lkept => k_is)
    (case l_Lkept => k_is)
    (case c_Lkept => k_is)
    (case k_Lkept => k_is)
    (case a_Ldone => k_is)
    (case l_Ldone => k_is)
    (case c_Ldone => k_is)
    (case k_Ldone => k_is)
    (case a_Ltold => k_is)
    (case l_Ltold => k_is)
    (case c_Ltold => k_is)
    (case k_Ltold => k_is)
    (case a_Lshows => k_is)
    (case l_Lshows => k_is)
    (case c_Lshows => k_is)
    (case k_Lshows => k_is)
    (case a_Lright => k_is)
    (case l_Lright => k_is)
    (case c_Lright => k_is)
    (case k_Lright => k_is)
    (case a_law => k_is)
    (case l_law => k_is)
    (case c_law => k_is)
    (case k_law => k_is)
    (case z_abs => k_is)
    (case z_bool => k_is)
    (case z_divmod => k_is)
    (case z_enumerate => k_is)
    (case z_int => k_is)
    (case z_isinstance => k_is)
    (case z_len => k_is)
    (case z_list => k_is)
    (case z_max => k_is)
    (case z_range => k_is)
    (case z_repr => k_is)
    (case z_sorted => k_is)
    (case z_tuple => k_is)
    (case x_WORDS => k_is)
    (case x_REGISTERS => k_is)
    (case x__LEAST_CELLS => k_is)
    (case x__MOST_CELLS => k_is)
    (case ic_Renamer => k_is)
    (case in_Renamer => k_is)
    (case it_Renamer => k_is)
    (case im_Renamer => k_is)
    (case sl_Renamer => k_is)
    (case ik_Renamer => k_is)
    (case ty_Renamer => k_is)

