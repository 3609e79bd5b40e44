import PyProof.Rows.All
import Wide.All
import OpenK.AllK
import Wide.FinOn
import HandS.ForMost
import HandS.ForExc
import HandS.IsInst
import HandS.TupAny
import HandS.TupMul
import HandS.Style
import HandS.ExcInit
import HandS.TryMany
import HandS.ExcField
import HandS.CallLocal
import HandS.More
import HandS.Steps
import PyProof.MaxThree
import HandS.Rev
import HandS.Zip
import PySem.Challenge.RW_hillrooms_k00_programs_and_their_errors
set_option Elab.async false
set_option linter.all false
set_option maxRecDepth 100000
set_option maxHeartbeats 4000000
/-! ### Kit -/
namespace Mine
open PySem PySem.Spec L2

/-! ## heaps -/
/-- what stood stands, but at a -/
def SB (a : Addr) (H H' : Hp) : Prop := ∀ b o, b ≠ a → H b = some o → H' b = some o
/-- what was a tuple is one -/
def Ext (K : PySem.W.Frag) (H H' : Hp) : Prop := ∀ a xs, SqT K H a xs → SqT K H' a xs
theorem SB.refl {a : Addr} {H : Hp} : SB a H H := fun _ _ _ h => h
theorem SB.trans {a : Addr} {H H1 H2 : Hp} (x : SB a H H1) (y : SB a H1 H2) : SB a H H2 := fun b o n h => y b o n (x b o n h)
theorem SB.of_same {a : Addr} {H H' : Hp} (s : Same H H') : SB a H H' := fun b o _ h => s b o h
theorem SB.upd {a : Addr} {H : Hp} {o : HO} : SB a H (upd H a o) := fun b u n h => by rw [upd_ne n]; exact h
theorem SB.new {a p : Addr} {H H' : Hp} {o : HO} (s : SB a H H') (hp : H' p = none) : SB a H (L2.upd H' p o) := fun b u n h => by
  have q := s b u n h
  rw [upd_ne (ne_of_none q hp)]; exact q
theorem SB.set {a : Addr} {H H' : Hp} {o : HO} (s : SB a H H') : SB a H (L2.upd H' a o) := fun b u n h => by
  rw [upd_ne n]; exact s b u n h
theorem Same.new {p : Addr} {H H' : Hp} {o : HO} (s : Same H H') (hp : H' p = none) : Same H (L2.upd H' p o) := fun b u h => by
  have q := s b u h
  rw [upd_ne (ne_of_none q hp)]; exact q
theorem same_new {H : Hp} {p : Addr} (h : H p = none) (o : HO) : Same H (upd H p o) := fun b u q => by rw [upd_ne (ne_of_none q h)]; exact q
theorem Ext.refl {K : PySem.W.Frag} {H : Hp} : Ext K H H := fun _ _ h => h
theorem Ext.trans {K : PySem.W.Frag} {H H1 H2 : Hp} (x : Ext K H H1) (y : Ext K H1 H2) : Ext K H H2 := fun a xs h => y a xs (x a xs h)
theorem Ext.of_same {K : PySem.W.Frag} {H H' : Hp} (s : Same H H') : Ext K H H' := fun a xs h => by
  rcases h with (h | ⟨o, h⟩) | h
  · exact .inl (.inl (s _ _ h))
  · exact .inl (.inr ⟨o, s _ _ h⟩)
  · exact .inr h
/-- an object that is no tuple is no known tuple -/
def noTup : HO → Prop
  | .tup _ => False
  | .frz _ _ => False
  | _ => True
theorem Ext.of_SB {K : PySem.W.Frag} {a : Addr} {H H' : Hp} {o : HO} (s : SB a H H') (h : H a = some o) (hn : noTup o) : Ext K H H' := fun b xs q => by
  rcases q with (q | ⟨u, q⟩) | q
  · have ne : b ≠ a := fun e => by subst e; rw [h] at q; cases q; exact hn
    exact .inl (.inl (s _ _ ne q))
  · have ne : b ≠ a := fun e => by subst e; rw [h] at q; cases q; exact hn
    exact .inl (.inr ⟨u, s _ _ ne q⟩)
  · exact .inr q
theorem Ext.set {K : PySem.W.Frag} {a : Addr} {H : Hp} {o u : HO} (h : H a = some o) (hn : noTup o) : Ext K H (upd H a u) := Ext.of_SB SB.upd h hn
theorem Ext.new {K : PySem.W.Frag} {p : Addr} {H : Hp} {o : HO} (h : H p = none) : Ext K H (upd H p o) := Ext.of_same (same_new h o)

/-! ## data without lists -/
mutual
inductive Rp (K : PySem.W.Frag) (H : Hp) : V → PyData → Prop
  | non : Rp K H .non .none
  | bl (b : Bool) : Rp K H (.bl b) (.bool b)
  | int (i : Int) : Rp K H (.int i) (.int i)
  | str (x : Str) : Rp K H (.str x) (.str x)
  | tup {a : Addr} {xs : List V} {ds : List PyData} : SqT K H a xs → Rps K H xs ds → Rp K H (.ref a) (.tuple ds)
inductive Rps (K : PySem.W.Frag) (H : Hp) : List V → List PyData → Prop
  | nil : Rps K H [] []
  | cons {v : V} {vs : List V} {d : PyData} {ds : List PyData} : Rp K H v d → Rps K H vs ds → Rps K H (v :: vs) (d :: ds)
end
mutual
theorem Rp.mono {K : PySem.W.Frag} {H H' : Hp} (e : Ext K H H') : ∀ (d : PyData) (v : V), Rp K H v d → Rp K H' v d
  | .none, _, h => by cases h; exact .non
  | .bool b, _, h => by cases h; exact .bl b
  | .int i, _, h => by cases h; exact .int i
  | .str x, _, h => by cases h; exact .str x
  | .tuple ds, _, h => by
    cases h with
    | tup hs hr => exact .tup (e _ _ hs) (Rps.mono e ds _ hr)
  | .list _, _, h => nomatch h
  | .dict _, _, h => nomatch h
theorem Rps.mono {K : PySem.W.Frag} {H H' : Hp} (e : Ext K H H') : ∀ (ds : List PyData) (vs : List V), Rps K H vs ds → Rps K H' vs ds
  | [], _, h => by cases h; exact .nil
  | d :: ds, _, h => by
    cases h with
    | cons h1 h2 => exact .cons (Rp.mono e d _ h1) (Rps.mono e ds _ h2)
end
mutual
theorem Rp.dp {K : PySem.W.Frag} {H : Hp} : ∀ (d : PyData) (v : V), Rp K H v d → Dp K H v d
  | .none, _, h => by cases h; exact .non
  | .bool b, _, h => by cases h; exact .bl b
  | .int i, _, h => by cases h; exact .int i
  | .str x, _, h => by cases h; exact .str x
  | .tuple ds, _, h => by
    cases h with
    | tup hs hr => exact .tup hs (Rps.dp ds _ hr)
  | .list _, _, h => nomatch h
  | .dict _, _, h => nomatch h
theorem Rps.dp {K : PySem.W.Frag} {H : Hp} : ∀ (ds : List PyData) (vs : List V), Rps K H vs ds → DpAll K H vs ds
  | [], _, h => by cases h; exact .nil
  | d :: ds, _, h => by
    cases h with
    | cons h1 h2 => exact .cons (Rp.dp d _ h1) (Rps.dp ds _ h2)
end
theorem Rps.length {K : PySem.W.Frag} {H : Hp} : ∀ {vs : List V} {ds : List PyData}, Rps K H vs ds → vs.length = ds.length
  | _, _, .nil => rfl
  | _, _, .cons _ t => by rw [List.length_cons, List.length_cons, Rps.length t]
theorem Rps.get {K : PySem.W.Frag} {H : Hp} : ∀ {vs : List V} {ds : List PyData} {i : Nat} {d : PyData}, Rps K H vs ds → ds[i]? = some d → ∃ v, vs[i]? = some v ∧ Rp K H v d
  | _, _, _, _, .nil, e => by simp at e
  | _, _, 0, d, .cons h _, e => by simp at e; subst e; exact ⟨_, rfl, h⟩
  | _, _, i + 1, d, .cons _ t, e => by
    obtain ⟨v, h1, h2⟩ := Rps.get (i := i) (d := d) t (by simpa using e)
    exact ⟨v, by simpa using h1, h2⟩
theorem Rps.getV {K : PySem.W.Frag} {H : Hp} : ∀ {vs : List V} {ds : List PyData} {i : Nat} {v : V}, Rps K H vs ds → vs[i]? = some v → ∃ d, ds[i]? = some d ∧ Rp K H v d
  | _, _, _, _, .nil, e => by simp at e
  | _, _, 0, d, .cons h _, e => by simp at e; subst e; exact ⟨_, rfl, h⟩
  | _, _, i + 1, v, .cons _ t, e => by
    obtain ⟨d, h1, h2⟩ := Rps.getV (i := i) (v := v) t (by simpa using e)
    exact ⟨d, by simpa using h1, h2⟩
theorem Rps.append {K : PySem.W.Frag} {H : Hp} : ∀ {vs ws : List V} {ds es : List PyData}, Rps K H vs ds → Rps K H ws es → Rps K H (vs ++ ws) (ds ++ es)
  | _, _, _, _, .nil, s => s
  | _, _, _, _, .cons r t, s => .cons r (Rps.append t s)
theorem Rps.one {K : PySem.W.Frag} {H : Hp} {v : V} {d : PyData} (h : Rp K H v d) : Rps K H [v] [d] := .cons h .nil
theorem Rps.reverse {K : PySem.W.Frag} {H : Hp} : ∀ {vs : List V} {ds : List PyData}, Rps K H vs ds → Rps K H vs.reverse ds.reverse
  | _, _, .nil => .nil
  | _, _, .cons r t => by
    rw [List.reverse_cons, List.reverse_cons]
    exact (Rps.reverse t).append (.one r)
theorem Rps.dropLast {K : PySem.W.Frag} {H : Hp} : ∀ {vs : List V} {ds : List PyData}, Rps K H vs ds → Rps K H vs.dropLast ds.dropLast
  | _, _, .nil => .nil
  | _, _, .cons r .nil => .nil
  | _, _, .cons r (.cons r2 t) => .cons r (Rps.dropLast (.cons r2 t))
theorem Rps.drop {K : PySem.W.Frag} {H : Hp} : ∀ (n : Nat) {vs : List V} {ds : List PyData}, Rps K H vs ds → Rps K H (vs.drop n) (ds.drop n)
  | 0, _, _, r => r
  | _ + 1, _, _, .nil => .nil
  | n + 1, _, _, .cons _ t => Rps.drop n t
theorem Rps.take {K : PySem.W.Frag} {H : Hp} : ∀ (n : Nat) {vs : List V} {ds : List PyData}, Rps K H vs ds → Rps K H (vs.take n) (ds.take n)
  | 0, _, _, _ => .nil
  | _ + 1, _, _, .nil => .nil
  | n + 1, _, _, .cons r t => .cons r (Rps.take n t)
theorem Rps.ints {K : PySem.W.Frag} {H : Hp} : ∀ (ns : List Int), Rps K H (ns.map V.int) (ns.map PyData.int)
  | [] => .nil
  | n :: r => .cons (.int n) (Rps.ints r)

/-! ## readings, one step each -/
section
variable {σ : St} {H : Hp} {Q : VK} {D : Ends} {ta tb tc te : TE} {t u : TS} {tt tt' : TT} {i : Nat} {K : PySem.W.Frag}
theorem rd_var {v : V} (e : σ[i]? = some (some v)) (h : Q v H) : tVar i σ H Q := ⟨v, e, h⟩
theorem rd_c {v : V} (h : Q v H) : tC v σ H Q := h
theorem rd_seq {n bk ct : St → Hp → Prop} {rt : VK} (h : t ⟨u ⟨n, rt, bk, ct⟩, rt, bk, ct⟩ σ H) : tSeq t u ⟨n, rt, bk, ct⟩ σ H := h
theorem rd_next {n bk ct : St → Hp → Prop} {rt : VK} (h : n σ H) : tNext ⟨n, rt, bk, ct⟩ σ H := h
theorem rd_brk {n bk ct : St → Hp → Prop} {rt : VK} (h : bk σ H) : tBreak ⟨n, rt, bk, ct⟩ σ H := h
theorem rd_ct {n bk ct : St → Hp → Prop} {rt : VK} (h : ct σ H) : tCont ⟨n, rt, bk, ct⟩ σ H := h
theorem rd_ret {n bk ct : St → Hp → Prop} {rt : VK} (h : te σ H rt) : tRet te ⟨n, rt, bk, ct⟩ σ H := h
theorem rd_retN {n bk ct : St → Hp → Prop} {rt : VK} (h : rt .non H) : tRetN ⟨n, rt, bk, ct⟩ σ H := h
theorem rd_asg {g : TG} {n bk ct : St → Hp → Prop} {rt : VK} (h : te σ H fun x H1 => g x σ H1 n) : tAsg te g ⟨n, rt, bk, ct⟩ σ H := h
theorem rd_drop {n bk ct : St → Hp → Prop} {rt : VK} (h : te σ H fun _ H1 => n σ H1) : tDrop te ⟨n, rt, bk, ct⟩ σ H := h
theorem rd_gname {v : V} {R : St → Hp → Prop} (h : R (σ.set i (some v)) H) : gName i v σ H R := h
theorem rd_par {i j : Nat} {ta : TA} {n bk ct : St → Hp → Prop} {rt : VK} (h : ta σ H fun vs H1 => ∃ v w, vs = [v, w] ∧ n ((σ.set i (some v)).set j (some w)) H1) : tPar i j ta ⟨n, rt, bk, ct⟩ σ H := h
theorem rd_par3 {i j l : Nat} {ta : TA} {n bk ct : St → Hp → Prop} {rt : VK} (h : ta σ H fun vs H1 => ∃ u v w, vs = [u, v, w] ∧ n (((σ.set i (some u)).set j (some v)).set l (some w)) H1) : tPar3 i j l ta ⟨n, rt, bk, ct⟩ σ H := h
theorem rd_par3_end {i j l : Nat} {u v w : V} {N : St → Hp → Prop} (h : N (((σ.set i (some u)).set j (some v)).set l (some w)) H) : ∃ u' v' w', [u, v, w] = [u', v', w'] ∧ N (((σ.set i (some u')).set j (some v')).set l (some w')) H := ⟨u, v, w, rfl, h⟩
theorem rd_split {p A B : Prop} [Decidable p] (h1 : p → A) (h2 : ¬ p → B) : if decide p = true then A else B := by
  by_cases c : p
  · rw [decide_eq_true c, if_pos rfl]; exact h1 c
  · rw [decide_eq_false c, if_neg Bool.false_ne_true]; exact h2 c
theorem rd_splitN {p A B : Prop} [Decidable p] (h1 : ¬ p → A) (h2 : p → B) : if (!decide p) = true then A else B := by
  by_cases c : p
  · rw [decide_eq_true c]; exact h2 c
  · rw [decide_eq_false c]; exact h1 c
theorem rd_splitB {b : Bool} {A B : Prop} (h1 : b = true → A) (h2 : b = false → B) : if b = true then A else B := by
  cases b with
  | true => exact h1 rfl
  | false => exact h2 rfl
theorem rd_aug {te : TE} {ti : TIp} {n bk ct : St → Hp → Prop} {rt : VK} {x : V} (e : σ[i]? = some (some x)) (h : te σ H fun y H1 => ti x y H1 fun z H2 => n (σ.set i (some z)) H2) : tAug i te ti ⟨n, rt, bk, ct⟩ σ H := ⟨x, e, h⟩
theorem rd_ipI {f : Int → Int → Int} {x y : Int} (h : Q (.int (f x y)) H) : ipI f (.int x) (.int y) H Q := ⟨x, y, rfl, rfl, h⟩
theorem rd_par_end {i j : Nat} {v w : V} {N : St → Hp → Prop} (h : N ((σ.set i (some v)).set j (some w)) H) : ∃ v' w', [v, w] = [v', w'] ∧ N ((σ.set i (some v')).set j (some w')) H := ⟨v, w, rfl, h⟩
theorem rd_if (h : tt σ H fun b H1 => if b = true then t D σ H1 else u D σ H1) : tIfS tt t u D σ H := h
theorem rd_ife (h : tt σ H fun b H1 => if b = true then ta σ H1 Q else tb σ H1 Q) : tIf tt ta tb σ H Q := h
theorem rd_op {r : R2} (h : ta σ H fun x H1 => tb σ H1 fun y H2 => r x y H2 Q) : tOp r ta tb σ H Q := h
theorem rd_un {r : V → Hp → VK → Prop} (h : ta σ H fun x H1 => r x H1 Q) : tUn r ta σ H Q := h
theorem rd_nil {R : List V → Hp → Prop} (h : R [] H) : tNil σ H R := h
theorem rd_cons {tr : TA} {R : List V → Hp → Prop} (h : ta σ H fun x H1 => tr σ H1 fun xs H2 => R (x :: xs) H2) : tCons ta tr σ H R := h
theorem rd_tup {a : TA} (h : a σ H fun xs H1 => xs.length ≤ sizeLine ∧ ∀ p, H1 p = none → Q (.ref p) (upd H1 p (.tup xs))) : tTup a σ H Q := h
theorem rd_lst {a : TA} (h : a σ H fun xs H1 => xs.length ≤ sizeLine ∧ ∀ p, H1 p = none → Q (.ref p) (upd H1 p (.lst xs))) : tLst a σ H Q := h
theorem rd_call {sp : Sp} {E : XK} {a : TA} (h : a σ H fun vs H1 => sp vs H1 Q E) : tCall sp [] E a σ H Q := by
  show a σ H fun vs H1 => sp (vs ++ []) H1 Q E
  have e : (fun vs H1 => sp (vs ++ []) H1 Q E) = fun vs H1 => sp vs H1 Q E := by
    funext vs H1; rw [List.append_nil]
  rw [e]; exact h
theorem rd_cb {r : List V → Hp → VK → Prop} {a : TA} (h : a σ H fun vs H1 => r vs H1 Q) : tCB r a σ H Q := h
theorem rd_test {R : Bool → Hp → Prop} (h : te σ H fun x H' => ∃ k, x = .bl k ∧ R k H') : tTest te σ H R := h
theorem rd_tB {R : Bool → Hp → Prop} (h : te σ H fun x H' => ∃ k, x = .bl k ∧ R k H') : tB te σ H R := h
theorem rd_bl {k : Bool} {R : Bool → Prop} (h : R k) : ∃ k', V.bl k = .bl k' ∧ R k' := ⟨k, rfl, h⟩
theorem rd_and {R : Bool → Hp → Prop} (h : tt σ H fun c H1 => if c = true then tt' σ H1 R else R false H1) : tAnd tt tt' σ H R := h
theorem rd_or {R : Bool → Hp → Prop} (h : tt σ H fun c H1 => if c = true then R true H1 else tt' σ H1 R) : tOr tt tt' σ H R := h
theorem rd_not {R : Bool → Hp → Prop} (h : tt σ H fun c H1 => R (!c) H1) : tNot tt σ H R := h
theorem rd_andV (h : ta σ H fun x H1 => ∃ c, x = .bl c ∧ if c = true then tb σ H1 Q else Q (.bl false) H1) : tAndV ta tb σ H Q := h
theorem rd_orV (h : ta σ H fun x H1 => ∃ c, x = .bl c ∧ if c = true then Q (.bl true) H1 else tb σ H1 Q) : tOrV ta tb σ H Q := h
theorem rd_notV (h : ta σ H fun x H1 => ∃ c, x = .bl c ∧ Q (.bl (!c)) H1) : tNotV ta σ H Q := h
theorem rd_chain {r r' : R2} (h : ta σ H fun x H1 => tb σ H1 fun y H2 => r x y H2 fun z H3 => ∃ k, z = .bl k ∧ if k = true then tc σ H3 fun w H4 => r' y w H4 Q else Q (.bl false) H3) : tChain r r' ta tb tc σ H Q := h
end
end Mine

/-! ### Kit2 -/
namespace Mine
open PySem PySem.Spec L2

/-! ## defs of the text, and their promises -/
def HasF (P : Program) (w : World) (K : PySem.W.Frag) (mg : Str → Option Value) (base : Heap) (CX : CXT) (k : Nat) (x : Str) (ps : List Str) (sp : Sp) : Prop :=
  ∃ (f : Addr) (fd : FuncData), FnOk P w K mg base CX k f fd ps sp ∧ mg x = some (.ref f) ∧ PySem.W.keepIn K (.ref f) = true ∧ Binds K fd ps []
def OwnF (K : PySem.W.Frag) (mg : Str → Option Value) (x : Str) (st : Stmt) : Prop := ∃ (f : Addr) (fd : FuncData), Fun K x x st f fd ∧ mg x = some (.ref f)
section
variable {P : Program} {w : World} {K : PySem.W.Frag} {mg : Str → Option Value} {base : Heap} {CX : CXT}
theorem HasF.mono {j k : Nat} {x : Str} {ps : List Str} {sp : Sp} (h : HasF P w K mg base CX j x ps sp) (l : j ≤ k) : HasF P w K mg base CX k x ps sp := by
  obtain ⟨f, fd, F, m, kp, b⟩ := h
  exact ⟨f, fd, F.mono l, m, kp, b⟩
theorem HasF.imp {k : Nat} {x : Str} {ps : List Str} {sp sp' : Sp} (h : HasF P w K mg base CX k x ps sp) (i : ∀ vs H Q E, sp' vs H Q E → sp vs H Q E) : HasF P w K mg base CX k x ps sp' := by
  obtain ⟨f, fd, F, m, kp, b⟩ := h
  exact ⟨f, fd, F.imp i, m, kp, b⟩
/-- a def that lets nothing out -/
theorem has0 {x : Str} {st : Stmt} {N ps : List Str} {k : Nat} {sp : Sp} (O : OwnF K mg x st) (S : FnScope N ps (defScope st))
    (hb : ∀ (kV doc pm : Value) (an : Option Addr) (cdv ct : Value) (us : List Value), us.length = ps.length → bindArgs (PySem.W.fnOf x x (defArgs st) (defBody st) (defScope st) .none kV doc pm an cdv ct) ⟨us, []⟩ = pure (ps.zip us))
    (len : ∀ vs H Q E, sp vs H Q E → vs.length = ps.length)
    (body : ∀ (f : Addr) (cdv : Value) (A : Around) (outer : List Env) (s : Shared) (H : Hp) (vs : List V) (Q : VK) (E : XK), Room k (A.deeper (PyProof.Rows.envOfC x (defScope st) s.heap.objs.size f cdv)) → sp vs H Q E →
      ∃ t, PSs (cxOf CX0 P w K mg base N x (defScope st) f cdv A outer s H E).nox (defBody st) t ∧ t { nx := fun _ H' => Q .non H', rt := Q } (start N vs) H) :
    HasF P w K mg base CX0 (k + 1) x ps sp := by
  obtain ⟨f, fd, F, m⟩ := O
  exact ⟨f, fd, F.ok S len (fun cdv A outer s H vs Q E hr h => body f cdv A outer s H vs Q E hr h), m, F.kp, F.binds hb⟩
/-- a def that may raise -/
theorem hasX {x : Str} {st : Stmt} {N ps : List Str} {k : Nat} {sp : Sp} (O : OwnF K mg x st) (S : FnScope N ps (defScope st))
    (hb : ∀ (kV doc pm : Value) (an : Option Addr) (cdv ct : Value) (us : List Value), us.length = ps.length → bindArgs (PySem.W.fnOf x x (defArgs st) (defBody st) (defScope st) .none kV doc pm an cdv ct) ⟨us, []⟩ = pure (ps.zip us))
    (len : ∀ vs H Q E, sp vs H Q E → vs.length = ps.length)
    (body : ∀ (f : Addr) (cdv : Value) (A : Around) (outer : List Env) (s : Shared) (H : Hp) (vs : List V) (Q : VK) (E : XK), Room k (A.deeper (PyProof.Rows.envOfC x (defScope st) s.heap.objs.size f cdv)) → sp vs H Q E →
      ∃ t, PSs (cxOf (L2.CX P w) P w K mg base N x (defScope st) f cdv A outer s H E) (defBody st) t ∧ t { nx := fun _ H' => Q .non H', rt := Q } (start N vs) H) :
    HasF P w K mg base (L2.CX P w) (k + 1) x ps sp := by
  obtain ⟨f, fd, F, m⟩ := O
  exact ⟨f, fd, F.okX S len (fun cdv A outer s H vs Q E hr h => body f cdv A outer s H vs Q E hr h), m, F.kp, F.binds hb⟩
end
section
variable {X : Cx} {CX : CXT} {k : Nat} {ps : List Str} {sp : Sp} {E : XK} {x : Str} {p pos : Pos} {e : Expr} {es : List Expr} {t : TA}
theorem pe_callH (h : HasF X.prog X.w X.K X.mg X.base CX k x ps sp) (hr : Room k X.A) (hg : Gl X x) (hx : Passes CX X E) (ha : PA X (e :: es) t)
    (hdb : (x == ("__debug__" : Str)) = false := by decide) (he : starEach (e :: es) X.env = (false, eval e X.env) :: starEach es X.env := by rfl) (hpl : (backTo pos (starEach es X.env)).any (·.1) = false := by rfl) :
    PE X (.Call (.Name x p) (e :: es) [] pos) (tCall sp [] E t) := by
  obtain ⟨f, fd, F, m, kp, b⟩ := h
  exact pe_call F hr hg m kp b .nil hx ha hdb he hpl
/-- within a try, or where a raise leaves -/
theorem pe_callHS {E : St → XK} (h : HasF X.prog X.w X.K X.mg X.base CX k x ps sp) (hr : Room k X.A) (hg : Gl X x) (hx : ∀ σ, PassesAt CX X σ (E σ)) (ha : PA X (e :: es) t)
    (hdb : (x == ("__debug__" : Str)) = false := by decide) (he : starEach (e :: es) X.env = (false, eval e X.env) :: starEach es X.env := by rfl) (hpl : (backTo pos (starEach es X.env)).any (·.1) = false := by rfl) :
    PE X (.Call (.Name x p) (e :: es) [] pos) (tCallS sp E t) := by
  obtain ⟨f, fd, F, m, kp, b⟩ := h
  exact pe_callS F hr hg m kp b hx ha hdb he hpl
theorem rd_callS {σ : St} {H : Hp} {Q : VK} {E : St → XK} (h : t σ H fun vs H1 => sp vs H1 Q (E σ)) : tCallS sp E t σ H Q := h
/-- the module's ints and texts -/
theorem pe_globI {i : Int} (h : ∃ t, X.mg x = some (.int i t)) (hg : Gl X x) (hd : (x == ("__debug__" : Str)) = false := by decide) : PE X (.Name x pos) (tC (.int i)) := by
  obtain ⟨t, h⟩ := h
  exact pe_glob hg h ⟨t, rfl⟩ hd
theorem pe_globS {z : Str} (h : ∃ t, X.mg x = some (.str z t)) (hg : Gl X x) (hd : (x == ("__debug__" : Str)) = false := by decide) : PE X (.Name x pos) (tC (.str z)) := by
  obtain ⟨t, h⟩ := h
  exact pe_glob hg h ⟨t, rfl⟩ hd
theorem pe_globR {a : Addr} (h : X.mg x = some (.ref a)) (hg : Gl X x) (hd : (x == ("__debug__" : Str)) = false := by decide) : PE X (.Name x pos) (tC (.ref a)) := pe_glob hg h rfl hd
end

/-! ## operators of any kind of operands -/
section
variable {X : Cx}
def rAddU (K : PySem.W.Frag) : R2 := fun x y H Q => (∃ i j, x = .int i ∧ y = .int j ∧ Q (.int (i + j)) H) ∨ (∃ i j, x = .str i ∧ y = .str j ∧ i.length + j.length ≤ sizeLine ∧ Q (.str (i ++ j)) H) ∨ rCat x y H Q ∨ rCatA K x y H Q
theorem addU : OpR X (binaryOp .Add) (rAddU X.K) := op_add.or (op_add_str.or (op_cat.or op_catA))
def rMulU (K : PySem.W.Frag) : R2 := fun x y H Q => (∃ i j, x = .int i ∧ y = .int j ∧ CMul i j ∧ Q (.int (i * j)) H) ∨ rRep x y H Q ∨ rRepT K x y H Q
theorem mulU : OpR X (binaryOp .Mult) (rMulU X.K) := op_mul.or (op_rep.or op_repT)
def rSubU : R2 := fun x y H Q => ∃ i j, x = .int i ∧ y = .int j ∧ Q (.int (i - j)) H
theorem subU : OpR X (binaryOp .Sub) rSubU := op_sub
def rModU : R2 := fun x y H Q => ∃ i j, x = .int i ∧ y = .int j ∧ 0 < j ∧ Q (.int (i % j)) H
theorem modU : OpR X (binaryOp .Mod) rModU := op_mod
def rDivU : R2 := fun x y H Q => ∃ i j, x = .int i ∧ y = .int j ∧ CDiv i j ∧ Q (.int (i / j)) H
theorem divU : OpR X (binaryOp .FloorDiv) rDivU := op_fdiv
def rPowU : R2 := fun x y H Q => ∃ i j, x = .int i ∧ y = .int j ∧ CPow i j ∧ Q (.int (i ^ j.toNat)) H
theorem powU : OpR X (binaryOp .Pow) rPowU := op_pow
def rLtU : R2 := fun x y H Q => ∃ i j, x = .int i ∧ y = .int j ∧ Q (.bl (decide (i < j))) H
theorem ltU : OpR X (compareOp .Lt) rLtU := op_lt
def rLeU : R2 := fun x y H Q => ∃ i j, x = .int i ∧ y = .int j ∧ Q (.bl (decide (i ≤ j))) H
theorem leU : OpR X (compareOp .LtE) rLeU := op_le
def rGtU : R2 := fun x y H Q => ∃ i j, x = .int i ∧ y = .int j ∧ Q (.bl (decide (j < i))) H
theorem gtU : OpR X (compareOp .Gt) rGtU := op_gt
def rGeU : R2 := fun x y H Q => ∃ i j, x = .int i ∧ y = .int j ∧ Q (.bl (decide (j ≤ i))) H
theorem geU : OpR X (compareOp .GtE) rGeU := op_ge
def rEqU (K : PySem.W.Frag) : R2 := fun x y H Q => (scal x y = true ∧ Q (.bl (decide (x = y))) H) ∨ rEqD K x y H Q
theorem eqU (hu : X.A.units + 64 < cLine) : OpR X (compareOp .Eq) (rEqU X.K) := op_eq.or (op_eqD hu)
def rNeU (K : PySem.W.Frag) : R2 := fun x y H Q => (scal x y = true ∧ Q (.bl (!decide (x = y))) H) ∨ rNeD K x y H Q
theorem neU (hu : X.A.units + 64 < cLine) : OpR X (compareOp .NotEq) (rNeU X.K) := op_ne.or (op_neD hu)
def rInU (K : PySem.W.Frag) : R2 := fun x y H Q => rIn K false x y H Q ∨ rInS x y H Q
theorem op_inS' : OpR X (compareOp .In) rInS := op_in_sign
theorem op_notInS' : OpR X (compareOp .NotIn) rNotInS := op_notIn_sign
theorem inU : OpR X (compareOp .In) (rInU X.K) := op_in_seq.or op_inS'
def rNotInU (K : PySem.W.Frag) : R2 := fun x y H Q => rIn K true x y H Q ∨ rNotInS x y H Q
theorem notInU : OpR X (compareOp .NotIn) (rNotInU X.K) := op_notIn_seq.or op_notInS'
def rSlU (K : PySem.W.Frag) : V → Option Int → Option Int → Hp → VK → Prop := fun x lo hi H Q => rSlL K x lo hi H Q ∨ rSlA K x lo hi H Q
theorem slU : SlR X (rSlU X.K) := sl_list.or sl_tupA
def rLenU (K : PySem.W.Frag) : List V → Hp → VK → Prop := fun xs H Q => (∃ p ys, xs = [.ref p] ∧ (SqL K H p ys ∨ SqT K H p ys) ∧ Q (.int ys.length) H) ∨ (∃ z : Str, xs = [.str z] ∧ z.length ≤ sizeLine ∧ Q (.int z.length) H)
theorem lenU : CallR X (.builtin "len") (rLenU X.K) := call_len_seq.or call_len_str
def rIntU : List V → Hp → VK → Prop := fun xs H Q => (∃ i, xs = [.int i] ∧ Q (.int i) H) ∨ ∃ k, xs = [.bl k] ∧ Q (.int (if k then 1 else 0)) H
theorem intU : CallR X (.type "int") rIntU := call_int1
def rMax2 : List V → Hp → VK → Prop := fun xs H Q => ∃ i j, xs = [.int i, .int j] ∧ Q (.int (if j > i then j else i)) H
theorem max2U (hc : X.calm = true) : CallR X (.builtin "max") rMax2 := call_max2 hc
def rMin2 : List V → Hp → VK → Prop := fun xs H Q => ∃ i j, xs = [.int i, .int j] ∧ Q (.int (if j < i then j else i)) H
theorem min2U (hc : X.calm = true) : CallR X (.builtin "min") rMin2 := call_min2 hc
def rTupU (K : PySem.W.Frag) : List V → Hp → VK → Prop := fun xs H Q => ∃ p ys, xs = [.ref p] ∧ ((SqL K H p ys ∧ ∀ l, H l = none → Q (.ref l) (upd H l (.tup ys))) ∨ (SqT K H p ys ∧ Q (.ref p) H))
theorem tupU : CallR X (.type "tuple") (rTupU X.K) := call_tuple_of
end
section
variable {K : PySem.W.Frag} {H : Hp} {Q : VK} {i j : Int} {a b p : Addr} {xs ys : List V} {z z' : Str}
theorem u_add (h : Q (.int (i + j)) H) : rAddU K (.int i) (.int j) H Q := .inl ⟨i, j, rfl, rfl, h⟩
theorem u_addS (l : z.length + z'.length ≤ sizeLine) (h : Q (.str (z ++ z')) H) : rAddU K (.str z) (.str z') H Q := .inr (.inl ⟨z, z', rfl, rfl, l, h⟩)
theorem u_addL (ha : H a = some (.lst xs)) (hb : H b = some (.lst ys)) (l : xs.length + ys.length ≤ sizeLine) (h : ∀ p, H p = none → Q (.ref p) (upd H p (.lst (xs ++ ys)))) : rAddU K (.ref a) (.ref b) H Q :=
  .inr (.inr (.inl ⟨a, b, xs, ys, rfl, rfl, ha, hb, l, h⟩))
theorem u_mul (c : CMul i j) (h : Q (.int (i * j)) H) : rMulU K (.int i) (.int j) H Q := .inl ⟨i, j, rfl, rfl, c, h⟩
theorem u_sub (h : Q (.int (i - j)) H) : rSubU (.int i) (.int j) H Q := ⟨i, j, rfl, rfl, h⟩
theorem u_mod (c : 0 < j) (h : Q (.int (i % j)) H) : rModU (.int i) (.int j) H Q := ⟨i, j, rfl, rfl, c, h⟩
theorem u_div (c : 0 < j ∧ j < 1073741824) (h : Q (.int (i / j)) H) : rDivU (.int i) (.int j) H Q := ⟨i, j, rfl, rfl, c, h⟩
theorem u_pow (c : CPow i j) (h : Q (.int (i ^ j.toNat)) H) : rPowU (.int i) (.int j) H Q := ⟨i, j, rfl, rfl, c, h⟩
theorem u_lt (h : Q (.bl (decide (i < j))) H) : rLtU (.int i) (.int j) H Q := ⟨i, j, rfl, rfl, h⟩
theorem u_le (h : Q (.bl (decide (i ≤ j))) H) : rLeU (.int i) (.int j) H Q := ⟨i, j, rfl, rfl, h⟩
theorem u_gt (h : Q (.bl (decide (j < i))) H) : rGtU (.int i) (.int j) H Q := ⟨i, j, rfl, rfl, h⟩
theorem u_ge (h : Q (.bl (decide (j ≤ i))) H) : rGeU (.int i) (.int j) H Q := ⟨i, j, rfl, rfl, h⟩
theorem u_eqI (h : Q (.bl (decide (i = j))) H) : rEqU K (.int i) (.int j) H Q := .inl ⟨rfl, by
  have e : decide (V.int i = V.int j) = decide (i = j) := by
    by_cases c : i = j
    · rw [decide_eq_true c, decide_eq_true (congrArg V.int c)]
    · rw [decide_eq_false c, decide_eq_false (fun q => c (V.int.inj q))]
  rw [e]; exact h⟩
theorem u_eqS (h : Q (.bl (decide (z = z'))) H) : rEqU K (.str z) (.str z') H Q := .inl ⟨rfl, by
  have e : decide (V.str z = V.str z') = decide (z = z') := by
    by_cases c : z = z'
    · rw [decide_eq_true c, decide_eq_true (congrArg V.str c)]
    · rw [decide_eq_false c, decide_eq_false (fun q => c (V.str.inj q))]
  rw [e]; exact h⟩
theorem u_neI (h : Q (.bl (!decide (i = j))) H) : rNeU K (.int i) (.int j) H Q := .inl ⟨rfl, by
  have e : decide (V.int i = V.int j) = decide (i = j) := by
    by_cases c : i = j
    · rw [decide_eq_true c, decide_eq_true (congrArg V.int c)]
    · rw [decide_eq_false c, decide_eq_false (fun q => c (V.int.inj q))]
  rw [e]; exact h⟩
theorem u_neB {x y : Bool} (h : Q (.bl (!decide (x = y))) H) : rNeU K (.bl x) (.bl y) H Q := .inl ⟨rfl, by
  have e : decide (V.bl x = V.bl y) = decide (x = y) := by cases x <;> cases y <;> rfl
  rw [e]; exact h⟩
theorem u_ixL {v : V} (s : SqL K H p xs) (e : atI xs i = some v) (h : Q v H) : rIx K (.ref p) (.int i) H Q := .inl ⟨p, xs, i, v, rfl, rfl, s, e, h⟩
theorem u_ixT {v : V} (s : SqT K H p xs) (e : atI xs i = some v) (h : Q v H) : rIx K (.ref p) (.int i) H Q := .inr (.inl ⟨p, xs, i, v, rfl, rfl, s, e, h⟩)
theorem u_ixS {c : Nat} (l : z.length ≤ sizeLine) (e : atI z.cps.toList i = some c) (h : Q (.str ⟨#[c]⟩) H) : rIx K (.str z) (.int i) H Q := .inr (.inr ⟨z, i, c, rfl, rfl, l, e, h⟩)
theorem u_lenL (s : SqL K H p xs) (h : Q (.int xs.length) H) : rLenU K [.ref p] H Q := .inl ⟨p, xs, rfl, .inl s, h⟩
theorem u_lenT (s : SqT K H p xs) (h : Q (.int xs.length) H) : rLenU K [.ref p] H Q := .inl ⟨p, xs, rfl, .inr s, h⟩
theorem u_lenS (l : z.length ≤ sizeLine) (h : Q (.int z.length) H) : rLenU K [.str z] H Q := .inr ⟨z, rfl, l, h⟩
theorem u_int (h : Q (.int i) H) : rIntU [.int i] H Q := .inl ⟨i, rfl, h⟩
theorem u_intB {c : Bool} (h : Q (.int (if c then 1 else 0)) H) : rIntU [.bl c] H Q := .inr ⟨c, rfl, h⟩
theorem u_max (h : Q (.int (if j > i then j else i)) H) : rMax2 [.int i, .int j] H Q := ⟨i, j, rfl, h⟩
theorem u_min (h : Q (.int (if j < i then j else i)) H) : rMin2 [.int i, .int j] H Q := ⟨i, j, rfl, h⟩
theorem u_tupL (s : SqL K H p xs) (h : ∀ l, H l = none → Q (.ref l) (upd H l (.tup xs))) : rTupU K [.ref p] H Q := ⟨p, xs, rfl, .inl ⟨s, h⟩⟩
theorem u_setL {v : V} {n : Nat} {R : Hp → Prop} (h : H p = some (.lst xs)) (e : ixN xs.length i = some n) (q : R (upd H p (.lst (xs.set n v)))) : rSetL (.ref p) (.int i) v H R := ⟨p, xs, i, n, rfl, rfl, h, e, q⟩
theorem u_neg (h : Q (.int (-i)) H) : rU (fun i => .int (-i)) (.int i) H Q := ⟨i, rfl, h⟩
theorem rd_gsub {σ : St} {to ti : TE} {t : TSet} {v : V} {R : St → Hp → Prop} (h : to σ H fun o H1 => ti σ H1 fun i H2 => t o i v H2 fun H3 => R σ H3) : gSub to ti t v σ H R := h
end
end Mine

/-! ### Kit3 -/
namespace HT
open PySem PySem.Spec PyProof.Rows
theorem adjust_rev (n : Nat) : Builtin.Slice.sliceAdjust none none (-1) (n : Int) = ((n : Int) - 1, -1) := by
  unfold Builtin.Slice.sliceAdjust
  simp
theorem places_rev (n : Nat) : Builtin.Slice.slicePlaces ((n : Int) - 1) (-1) (-1) = n := by
  unfold Builtin.Slice.slicePlaces
  have h1 : ¬ ((-1 : Int) > 0) := by omega
  simp only [h1, if_false]
  by_cases h : (n : Int) - 1 > -1
  · rw [if_pos h]
    have e : (-(-1 : Int)) = 1 := by omega
    rw [e, Int.ediv_one]
    omega
  · rw [if_neg h]; omega
theorem pick_rev (xs : Array Value) : ((List.range xs.size).filterMap fun (m : Nat) => xs[((xs.size : Int) - 1 + (m : Int) * (-1)).toNat]?).toArray = xs.toList.reverse.toArray := by
  congr 1
  have e : ∀ l : List Nat, (∀ m ∈ l, m < xs.size) → l.filterMap (fun (m : Nat) => xs[((xs.size : Int) - 1 + (m : Int) * (-1)).toNat]?) = l.map (fun m => xs.getD (xs.size - 1 - m) .none) := by
    intro l
    induction l with
    | nil => intro _; rfl
    | cons m r ih =>
      intro h
      have hm' : m < xs.size := h m List.mem_cons_self
      have e1 : ((xs.size : Int) - 1 + (m : Int) * (-1)).toNat = xs.size - 1 - m := by omega
      have h2 : xs.size - 1 - m < xs.size := by omega
      have e2 : xs[((xs.size : Int) - 1 + (m : Int) * (-1)).toNat]? = some (xs.getD (xs.size - 1 - m) .none) := by
        rw [e1]
        simp [Array.getD, h2]
      rw [List.filterMap_cons, e2, List.map_cons, ih fun q hq => h q (List.mem_cons_of_mem _ hq)]
  rw [e _ fun m hm => List.mem_range.mp hm]
  apply List.ext_getElem?
  intro i
  rw [List.getElem?_map]
  by_cases hi : i < xs.size
  · rw [List.getElem?_range hi]
    rw [List.getElem?_reverse (by simpa using hi)]
    have h2 : xs.size - 1 - i < xs.size := by omega
    simp [Array.getD, h2]
  · have h1 : (List.range xs.size)[i]? = none := by simp; omega
    have h2 : xs.toList.reverse[i]? = none := by simp; omega
    rw [h1, h2]; rfl
theorem extend_tupW (l : Addr) (items : Array Value) (n : Nat) (b : Addr) (items2 : Array Value) (n2 : Nat) (dd : Option Addr) (sl : Array (Option Value)) (hs0 : ¬(!items.isEmpty && Builtin.List.listTooLong (items.size + items2.size)) = true) (hs1 : items.size ≤ sizeLine) (hs2 : items.size + items2.size ≤ sizeLine + 1) :
    Meets (Builtin.«list.extend» ⟨[.ref l, .ref b], []⟩) (fun _ R s => s.heap.get? l = some { cls := .type "list", dict := none, data := .seq items n, slots := #[] } ∧ s.heap.get? b = some { cls := .type "tuple", dict := dd, data := .seq items2 n2, slots := sl } ∧ R (.ok (.ret Value.none)) { s with heap := s.heap.update l (Obj.mapSeq fun x => x ++ items2), toks := s.toks }) :=
  .of_wp fun prog w A R s h => by
    obtain ⟨hp, g, d, tk, os⟩ := s; obtain ⟨hl, hb, h⟩ := h; have f1 := AutoSeq1.idx_int; have f2 := AutoSeq1.sub_tuple_tuple; have f3 := AutoSeq1.sub_list_list; have f4 := AutoSeq1.sub_tuple_list; have f5 := AutoSeq1.sub_list_tuple;
    have hz' : (items ++ items2).size ≤ sizeLine + 1 := by rw [Array.size_append]; exact hs2
    wp_walk using (wpAny_updateSeq hl rfl (hz := hs1) (_hz' := hz')), AutoSeq1.wpAny_loadPart' hl, AutoSeq1.wpAny_loadPart' hb; exact ⟨_, rfl, h⟩
variable {prog : Program} {w : World} {A : Around} {E : Value → Shared → Prop} {s : Shared}
theorem sliceApplied_rev {sl : Addr} {vl vu vs : Value} {n : Nat} {Q : Int × Int × Nat → Shared → Prop} (hs : s.heap.IsSliceOf sl vl vu vs) (pl : IsPart vl none) (pu : IsPart vu none) (ps : IsPart vs (some (-1)))
    (h : Q ((n : Int) - 1, -1, n) s) : wpAny (model prog w) A (Builtin.Slice.sliceApplied (.ref sl) (pure (n : Int))) Q E s := by
  obtain ⟨os, hos, hcs, hds⟩ := id hs
  unfold Builtin.Slice.sliceApplied Builtin.Slice.sliceFields
  refine wpAny_bind (wpAny_bind (wpAny_field hos hds (x := vl) rfl (wpAny_bind (wpAny_field hos hds (x := vu) rfl (wpAny_bind (wpAny_field hos hds (x := vs) rfl (wpAny_pure ?_)))))))
  refine wpAny_bind (slicePart_ ps ?_)
  show wpAny _ _ (if ((-1 : Int) == 0) = true then _ else _) _ _ s
  rw [if_neg (by decide)]
  refine wpAny_bind (slicePart_ pl (wpAny_bind (slicePart_ pu (wpAny_bind (wpAny_pure ?_)))))
  show wpAny _ _ (match Builtin.Slice.sliceAdjust none none (-1) (n : Int) with | (lo, hi) => pure (lo, (-1 : Int), Builtin.Slice.slicePlaces lo hi (-1))) _ _ s
  rw [adjust_rev n]
  show wpAny _ _ (pure ((n : Int) - 1, (-1 : Int), Builtin.Slice.slicePlaces ((n : Int) - 1) (-1) (-1))) _ _ s
  rw [places_rev]
  exact wpAny_pure h
theorem getItem_tuple_rev {t sl : Addr} {items : Array Value} {vl vu vs : Value} {Q : Value → Shared → Prop} (ht : IsTup s.heap t items) (hs : s.heap.IsSliceOf sl vl vu vs) (pl : IsPart vl none) (pu : IsPart vu none) (ps : IsPart vs (some (-1)))
    (h : Q (.ref s.heap.objs.size) { s with heap := s.heap.push { cls := .type "tuple", data := .seq items.toList.reverse.toArray } })
    (hsz : items.size ≤ sizeLine) : wpAny (model prog w) A (getItem (.ref t) (.ref sl)) Q E s := by
  have htake : sizeOk (.seq items.toList.reverse.toArray) := by
    show items.toList.reverse.toArray.size ≤ sizeLine
    rw [List.size_toArray, List.length_reverse, Array.length_toList]
    omega
  obtain ⟨os, hos, hcs, hds⟩ := id hs
  have hTs : s.TypeIs (.ref sl) "slice" := ⟨os, hos, hcs⟩
  unfold getItem
  try with_reducible refine wpAny_holding ?_
  first | refine wpAny_bind (wpAny_pure ?_) | skip
  refine wpAny_bind (wpAny_sequenceKey ht.typeIs (by decide) ?_)
  refine wpAny_bind (wpAny_callSpecial?_slot (name := Str.ofString "__getitem__") ht.typeIs PyProof.Rows.slot_tuple_getitem
    (wpAny_call_entry PyProof.Rows.slot_tuple_getitem ht.typeIs entry_tuple_getitem ?_ (args_tuple_getitem _ _)))
  show wpAny _ _ (Builtin.Tuple.tupleItemsOf (.ref t) >>= _) _ _ s
  refine wpAny_bind (tupleItemsOf_ ht ?_)
  refine wpAny_bind (wpAny_typeOf hTs ?_)
  rw [if_pos (by decide)]
  refine wpAny_bind (sliceApplied_rev (n := items.size) hs pl pu ps ?_)
  have hno : ¬ ((((items.size : Int) - 1) == 0 && (-1 : Int) == 1 && items.size == items.size) = true) := by
    intro q
    rw [Bool.and_eq_true, Bool.and_eq_true] at q
    exact absurd (eq_of_beq q.1.2) (by decide)
  show wpAny _ _ (if (((items.size : Int) - 1) == 0 && (-1 : Int) == 1 && items.size == items.size) = true then _ else _) _ _ s
  rw [if_neg hno, pick_rev]
  first
    | exact wpAny_bind (m := Builtin.Tuple.tupleExact _) (wpAny_newObj_type (wpAny_pure ⟨_, rfl, wpAny_pure h⟩) htake)
    | exact wpAny_bind (m := Builtin.Tuple.tupleExact _) (wpAny_newObj_type (wpAny_bind (wpAny_pure (wpAny_pure ⟨_, rfl, wpAny_pure h⟩))) htake)
    | exact wpAny_bind (wpAny_bind (m := Builtin.Tuple.tupleExact _) (wpAny_newObj_type (wpAny_pure (wpAny_pure ⟨_, rfl, wpAny_pure h⟩)) htake))
    | exact wpAny_bind (wpAny_bind (m := Builtin.Tuple.tupleExact _) (wpAny_newObj_type (wpAny_pure ⟨_, rfl, wpAny_pure h⟩) htake))
end HT
namespace Mine
open PySem PySem.Spec PyProof.Rows L2
section
variable {X : Cx}
/-- e[::-1], a list or a tuple -/
def tRevU (K : PySem.W.Frag) (te : TE) : TE := fun σ H Q => te σ H fun x H1 => ∃ a xs, x = .ref a ∧ ((SqL K H1 a xs ∧ ∀ p, H1 p = none → Q (.ref p) (upd H1 p (.lst xs.reverse))) ∨ (SqT K H1 a xs ∧ ∀ p, H1 p = none → Q (.ref p) (upd H1 p (.tup xs.reverse))))
theorem pe_revU {e : Expr} {te : TE} {k : Nat} {p1 p2 p3 pos : Pos} (he : PE X e te) : PE X (.Subscript e (.Slice none none (some (.UnaryOp .USub (.Constant (.int 1) k p1) p2)) p3) pos) (tRevU X.K te) := by
  refine ⟨fun pins s σ H Q I h => ?_⟩
  refine Subscript_ (thn (he.run pins s σ H _ I h) fun v s1 ⟨x, H1, I1, r1, q1⟩ => ?_)
  obtain ⟨a, xs, ex, q⟩ := q1
  subst ex
  cases r1
  have hst : PO X (some (.UnaryOp .USub (.Constant (.int 1) k p1) p2)) (tPart (tUn (rU fun i => .int (-i)) (tC (.int 1)))) := po_some (pe_un un_neg pe_int)
  refine wpAny_Slice (thn (po_none.run pins s1 σ H1 (fun o H2 => o = none ∧ H2 = H1) I1 ⟨rfl, rfl⟩) fun vl s2 ⟨l, H2, I2, pl, el, e2⟩ => ?_)
  subst el e2
  refine thn (po_none.run pins s2 σ H2 (fun o H3 => o = none ∧ H3 = H2) I2 ⟨rfl, rfl⟩) fun vu s3 ⟨u, H3, I3, pu, eu, e3⟩ => ?_
  subst eu e3
  refine thn (hst.run pins s3 σ H3 (fun o H4 => o = some (-1) ∧ H4 = H3) I3 ⟨1, rfl, -1, rfl, rfl, rfl⟩) fun vs s4 ⟨o, H4, I4, ps, eo, e4⟩ => ?_
  subst eo e4
  have I5 : Inv X pins σ H4 { s4 with heap := s4.heap.push { cls := .type "slice", data := .fields #[vl, vu, vs] } } := I4.kept (t' := s4.toks) fun b ob q => Heap.get?_push_of_some _ q
  show wpAny (model X.prog X.w) X.A (subscriptTail e (.Slice none none (some (.UnaryOp .USub (.Constant (.int 1) k p1) p2)) p3) (.ref a) (.ref s4.heap.objs.size)) (EP X pins σ Q) X.xe { s4 with heap := s4.heap.push { cls := .type "slice", data := .fields #[vl, vu, vs] } }
  rcases q with ⟨hx, q⟩ | ⟨hx, q⟩
  · obtain ⟨its, r, ht, hz⟩ := I5.list hx
    have hlen := r.length
    refine tail_any (ops := [.ref a, .ref s4.heap.objs.size]) ht.isList.typeIs (PySem.slot_list_getitem.lookup) ?_ (by with_unfolding_all rfl)
    refine wpAny_getItem_list_slice ht.isList (Heap.IsSliceOf.new _ vl vu vs) pl pu ps (by decide) ?_ (by rw [List.size_toArray]; omega)
    rw [PySem.W.krv_pick]
    refine ⟨.ref _, _, I5.laid (t' := s4.toks) (o := .lst xs.reverse) (fun b ob q => Heap.get?_push_of_some _ q) (Nat.le_refl _) ?_, rfl, q _ (I5.hok.fresh (Nat.le_refl _))⟩
    exact ⟨by rw [List.length_reverse]; exact hz, _, 0, r.reverse, Heap.get?_push_size _ rfl⟩
  · obtain ⟨its, r, ht, hz⟩ := I5.tuple hx
    have hlen := r.length
    refine tail_any (ops := [.ref a, .ref s4.heap.objs.size]) ht.typeIs (PyProof.Rows.slot_tuple_getitem.lookup) ?_ (by with_unfolding_all rfl)
    refine HT.getItem_tuple_rev ht (Heap.IsSliceOf.new _ vl vu vs) pl pu ps ?_ (by rw [List.size_toArray]; omega)
    refine ⟨.ref _, _, I5.laid (t' := s4.toks) (o := .tup xs.reverse) (fun b ob q => Heap.get?_push_of_some _ q) (Nat.le_refl _) ?_, rfl, q _ (I5.hok.fresh (Nat.le_refl _))⟩
    refine ⟨by rw [List.length_reverse]; exact hz, its.reverse, r.reverse, _, Heap.get?_push_size _ rfl, rfl, 0, rfl⟩
/-- xs.extend(e), e a list or a tuple -/
def rExtT (K : PySem.W.Frag) : V → List V → Hp → VK → Prop := fun x vs H Q => ∃ l b xs zs, x = .ref l ∧ vs = [.ref b] ∧ H l = some (.lst xs) ∧ SqT K H b zs ∧ xs.length + zs.length ≤ sizeLine ∧ Q .non (upd H l (.lst (xs ++ zs)))
theorem mt_extT : MtM X "list.extend" (rExtT X.K) := by
  intro pins s σ H x vs v us Q I rx rv h
  obtain ⟨l, b, xs, zs, rfl, rfl, hH, hB, hz, q⟩ := h
  cases rx
  obtain ⟨u, rfl, ru⟩ := rv.one
  cases ru
  obtain ⟨z, its, n, r, hl, e⟩ := I.lstM hH
  obtain ⟨its2, r2, ⟨⟨cls, dd, data, sl⟩, ho, hc, n2, hd⟩, hs⟩ := I.tuple hB
  simp only at hc hd
  subst hc hd
  have hl2 := r2.length
  have hsz : its.toArray.size + its2.toArray.size ≤ sizeLine := by rw [List.size_toArray, List.size_toArray]; omega
  have hlong : ¬ (!its.toArray.isEmpty && Builtin.List.listTooLong (its.toArray.size + its2.toArray.size)) = true := by
    rw [notLongL hsz, Bool.and_false]
    exact Bool.false_ne_true
  refine call_meets F.slot_list_extend ⟨_, e, rfl⟩ F.entry_list_extend (F.args_list_extend_2 _ _)
    (HT.extend_tupW l its.toArray n b its2.toArray n2 dd sl hlong (by rw [List.size_toArray]; omega) (by omega)) ⟨e, ho, ?_⟩
  refine ⟨.non, _, I.lset (its' := its ++ its2) hH e (by simp) (r.append r2) ?_, rfl, q⟩
  rw [List.length_append]
  omega
def rExtU (K : PySem.W.Frag) : V → List V → Hp → VK → Prop := fun x vs H Q => rExtend x vs H Q ∨ rExtT K x vs H Q
theorem mt_extU : MtR X "list.extend" (rExtU X.K) := MtR.or mt_extend mt_extT
end
end Mine

/-! ### Kit4 -/
namespace Mine
open PySem PySem.Spec L2
section
variable {X : Cx} (K : PySem.W.Frag)
theorem kAdd (h : X.K = K := by rfl) : OpR X (binaryOp .Add) (rAddU K) := by subst h; exact addU
theorem kMul (h : X.K = K := by rfl) : OpR X (binaryOp .Mult) (rMulU K) := by subst h; exact mulU
theorem kEq (hu : X.A.units + 64 < cLine) (h : X.K = K := by rfl) : OpR X (compareOp .Eq) (rEqU K) := by subst h; exact eqU hu
theorem kNe (hu : X.A.units + 64 < cLine) (h : X.K = K := by rfl) : OpR X (compareOp .NotEq) (rNeU K) := by subst h; exact neU hu
theorem kIn (h : X.K = K := by rfl) : OpR X (compareOp .In) (rInU K) := by subst h; exact inU
theorem kNotIn (h : X.K = K := by rfl) : OpR X (compareOp .NotIn) (rNotInU K) := by subst h; exact notInU
theorem kSl (h : X.K = K := by rfl) : SlR X (rSlU K) := by subst h; exact slU
theorem kLen (h : X.K = K := by rfl) : CallR X (.builtin "len") (rLenU K) := by subst h; exact lenU
theorem kTup (h : X.K = K := by rfl) : CallR X (.type "tuple") (rTupU K) := by subst h; exact tupU
theorem kIx (h : X.K = K := by rfl) : IxR X (rIx K) := by subst h; exact ix_seq
theorem kIsi (h : X.K = K := by rfl) : CallR X (.builtin "isinstance") (rIsi K) := by subst h; exact call_isi
theorem kExt (h : X.K = K := by rfl) : MtR X "list.extend" (rExtU K) := by subst h; exact mt_extU
theorem kSum (hc : X.calm = true) (h : X.K = K := by rfl) : CallR X (.builtin "sum") (rSum K) := by subst h; exact cr_sum hc
def rListU (K : PySem.W.Frag) : List V → Hp → VK → Prop := fun xs H Q => ∃ p ys, xs = [.ref p] ∧ (SqL K H p ys ∨ SqT K H p ys) ∧ ∀ l, H l = none → Q (.ref l) (upd H l (.lst ys))
theorem kList (h : X.K = K := by rfl) : CallR X (.type "list") (rListU K) := by subst h; exact call_list_of
variable {e o : Expr} {es : List Expr} {te to : TE} {ta t : TA} {tg : Expr}
theorem pe_revK {k : Nat} {p1 p2 p3 pos : Pos} (he : PE X e te) (h : X.K = K := by rfl) : PE X (.Subscript e (.Slice none none (some (.UnaryOp .USub (.Constant (.int 1) k p1) p2)) p3) pos) (tRevU K te) := by subst h; exact pe_revU he
theorem pi_listK (he : PE X e te) (h : X.K = K := by rfl) : PI X tg e (iList K te) := by subst h; exact pi_list he
theorem pi_tupK (he : PE X e te) (h : X.K = K := by rfl) : PI X tg e (iTup K te) := by subst h; exact pi_tup he
theorem pi_enumK {p pos tpos : Pos} {elts : List Expr} {kk : Nat} (hg : Gl X "enumerate") (hm : X.mg "enumerate" = none) (ha : PA X [e] ta) (h : X.K = K := by rfl) (hs : starEach [e] X.env = [(false, eval e X.env)] := by rfl) :
    PI X (.Tuple elts kk tpos) (.Call (.Name "enumerate" p) [e] [] pos) (iEnum K ta) := by subst h; exact pi_enum hg hm ha hs
theorem pi_zipK {e2 : Expr} {p pos tpos : Pos} {elts : List Expr} {kk : Nat} (hg : Gl X "zip") (hm : X.mg "zip" = none) (ha : PA X [e, e2] ta) (h : X.K = K := by rfl)
    (hs : starEach [e, e2] X.env = (false, eval e X.env) :: starEach [e2] X.env := by rfl) (hpl : (backTo pos (starEach [e2] X.env)).any (·.1) = false := by rfl) :
    PI X (.Tuple elts kk tpos) (.Call (.Name "zip" p) [e, e2] [] pos) (RZ.iZipA K ta) := by subst h; exact RZ.pi_zipA hg hm ha hs hpl
theorem pi_revK {p pos : Pos} (hg : Gl X "reversed") (hm : X.mg "reversed" = none) (he : PE X e te) (h : X.K = K := by rfl) (hs : starEach [e] X.env = (false, eval e X.env) :: starEach [] X.env := by rfl) : PI X tg (.Call (.Name "reversed" p) [e] [] pos) (RT.iRevA K te) := by
  subst h; exact RT.pi_revA hg hm he hs
theorem pg_tupK {es : List Expr} {k : Nat} {t : TGs} {n : Nat} {pos : Pos} (hc : X.calm = true) (hp : PGs X es t) (h : X.K = K := by rfl)
    (hn : (assignEach es X.env).length = n := by rfl) (hst : (assignEach es X.env).findIdx? (·.1) = none := by rfl) : PG X (.Tuple es k pos) (gTup K n t) := by subst h; exact pg_tup hc hp hn hst
/-- a test by truth -/
def tTruU (K : PySem.W.Frag) (ta : TE) : TT := fun σ H Q => ta σ H fun x H' => ∃ k, TruV K x H' k ∧ Q k H'
theorem pt_truthK (ha : PE X e te) (he : ∀ whole, isTrue e X.env whole = (do let v ← whole; standAt e.pos; holding [v] (truthy v))) (h : X.K = K := by rfl) : PT X e (tTruU K te) := by subst h; exact pt_truth ha he
variable {name : Str} {apos cpos : Pos} {T id : String} {r : V → List V → Hp → VK → Prop}
theorem pe_bm0K (pa : PlainAttrs T) (slot : Slot T name id) (hty : typeOf (.builtin id) = pure (.type "method_descriptor")) (hm : MtR X id r) (ho : PE X o to) (h : X.K = K := by rfl)
    (hbase : attributeBase o name X.env (eval o X.env) = eval o X.env := by rfl) (hline : (apos.endLine == cpos.line) = true := by rfl) : PE X (.Call (.Attribute o name apos) [] [] cpos) (tBM0 K T r to) := by
  subst h; exact pe_bm0 pa slot hty hm ho hbase hline
theorem pe_bmK (pa : PlainAttrs T) (slot : Slot T name id) (hty : typeOf (.builtin id) = pure (.type "method_descriptor")) (hm : MtR X id r) (ho : PE X o to) (ha : PA X (e :: es) t) (h : X.K = K := by rfl)
    (hbase : attributeBase o name X.env (eval o X.env) = eval o X.env := by rfl)
    (hfew : ((backTo cpos (starEach (e :: es) X.env)).all (fun x => !x.1) && (backToKw cpos (keywordEach [] X.env)).all (fun x => x.1.isSome)
      && decide ((e :: es).length + ([] : List Keyword).length + (if ([] : List Keyword).isEmpty then 0 else 1) < 30)) = true := by rfl)
    (hline : (apos.endLine == cpos.line) = true := by rfl) (hs : starEach (e :: es) X.env = (false, eval e X.env) :: starEach es X.env := by rfl) (hplain : (backTo cpos (starEach es X.env)).any (·.1) = false := by rfl) :
    PE X (.Call (.Attribute o name apos) (e :: es) [] cpos) (tBM K T r to t) := by subst h; exact pe_bm pa slot hty hm ho ha hbase hfew hline hs hplain
end
section
variable {X : Cx}
def rMin3 : List V → Hp → VK → Prop := fun xs H Q => ∃ a b c, xs = [.int a, .int b, .int c] ∧ Q (.int (if b < a then (if c < b then c else b) else (if c < a then c else a))) H
theorem min3U (hc : X.calm = true) : CallR X (.builtin "min") rMin3 := by
  intro pins s σ H xs us Q I r h
  obtain ⟨a, b, c, rfl, q⟩ := h
  cases r with
  | cons r1 r =>
    cases r with
    | cons r2 r =>
      cases r with
      | cons r3 r =>
        cases r
        obtain ⟨t1, rfl⟩ := r1
        obtain ⟨t2, rfl⟩ := r2
        obtain ⟨t3, rfl⟩ := r3
        refine min_three_ints (I.ok.hd hc) fun h' tk k => ⟨_, H, I.kept k, ?_, q⟩
        by_cases h1 : b < a
        · simp only [if_pos h1]
          by_cases h2 : c < b
          · simp only [if_pos h2]; exact ⟨_, rfl⟩
          · simp only [if_neg h2]; exact ⟨_, rfl⟩
        · simp only [if_neg h1]
          by_cases h2 : c < a
          · simp only [if_pos h2]; exact ⟨_, rfl⟩
          · simp only [if_neg h2]; exact ⟨_, rfl⟩
theorem u_min3 {H : Hp} {Q : VK} {a b c : Int} (h : Q (.int (if b < a then (if c < b then c else b) else (if c < a then c else a))) H) : rMin3 [.int a, .int b, .int c] H Q := ⟨a, b, c, rfl, h⟩
/-- a < b < c < d -/
def tChain3 (r r' r'' : R2) (ta tb tc td : TE) : TE := fun σ H Q => ta σ H fun x H1 => tb σ H1 fun y H2 => r x y H2 fun z H3 => ∃ k, z = .bl k ∧
  (if k = true then tc σ H3 fun w H4 => r' y w H4 fun z2 H5 => ∃ k2, z2 = .bl k2 ∧ (if k2 = true then td σ H5 fun v H6 => r'' w v H6 Q else Q (.bl false) H5) else Q (.bl false) H3)
theorem pe_chain3 {a b c d : Expr} {pos : Pos} {ta tb tc td : TE} {op op' op'' : CmpOp} {r r' r'' : R2} (ho : OpR X (compareOp op) r) (ho' : OpR X (compareOp op') r') (ho'' : OpR X (compareOp op'') r'') (ha : PE X a ta) (hb : PE X b tb) (hc : PE X c tc) (hd : PE X d td)
    (hm : lastMarks [op, op', op''] [b, c, d] = false := by with_unfolding_all rfl) : PE X (.Compare a [op, op', op''] [b, c, d] pos) (tChain3 r r' r'' ta tb tc td) := by
  refine ⟨fun pins s σ H Q I h => ?_⟩
  refine PyProof.Rows.Compare_chain (thn (ha.run pins s σ H _ I h) fun v s1 ⟨x, H1, I1, r1, q1⟩ => PyProof.Rows.chain_link (thn (hb.run pins s1 σ H1 _ I1 q1) fun u s2 ⟨y, H2, I2, r2, q2⟩ =>
    thn (ho pins s2 σ H2 x y v u _ I2 r1 r2 q2) fun d s3 ⟨z, H3, I3, r3, k, e, q3⟩ => ?_)) hm
  subst e
  cases r3
  refine wpAny_truthy_bool ?_
  cases k with
  | false => exact PyProof.Rows.ite_ff ⟨.bl false, H3, I3, rfl, q3⟩
  | true =>
    refine PyProof.Rows.ite_tt (PyProof.Rows.chain_link (thn (hc.run pins s3 σ H3 _ I3 q3) fun w' s4 ⟨z', H4, I4, r4, q4⟩ => thn (ho' pins s4 σ H4 y z' u w' _ I4 r2 r4 q4) fun d2 s5 ⟨z5, H5, I5, r5, k5, e5, q5⟩ => ?_))
    subst e5
    cases r5
    refine wpAny_truthy_bool ?_
    cases k5 with
    | false => exact PyProof.Rows.ite_ff ⟨.bl false, H5, I5, rfl, q5⟩
    | true => exact PyProof.Rows.ite_tt (PyProof.Rows.chain_last (thn (hd.run pins s5 σ H5 _ I5 q5) fun w2 s6 ⟨z6, H6, I6, r6, q6⟩ => ho'' pins s6 σ H6 z' z6 w' w2 Q I6 r4 r6 q6))
end
section
variable {σ : St} {H : Hp} {Q : VK} {D : Ends} {ta tb tc td te : TE} {K : PySem.W.Frag}
theorem rd_chain3 {r r' r'' : R2} (h : ta σ H fun x H1 => tb σ H1 fun y H2 => r x y H2 fun z H3 => ∃ k, z = .bl k ∧
  (if k = true then tc σ H3 fun w H4 => r' y w H4 fun z2 H5 => ∃ k2, z2 = .bl k2 ∧ (if k2 = true then td σ H5 fun v H6 => r'' w v H6 Q else Q (.bl false) H5) else Q (.bl false) H3)) : tChain3 r r' r'' ta tb tc td σ H Q := h
theorem rd_tru {R : Bool → Hp → Prop} (h : te σ H fun x H' => ∃ k, TruV K x H' k ∧ R k H') : tTruU K te σ H R := h
theorem rd_truL {a : Addr} {xs : List V} {R : Bool → Prop} (s : SqL K H a xs) (h : R (!xs.isEmpty)) : ∃ k, TruV K (.ref a) H k ∧ R k := ⟨_, .inl ⟨xs, s, rfl⟩, h⟩
theorem rd_truB {b : Bool} {R : Bool → Prop} (h : R b) : ∃ k, TruV K (.bl b) H k ∧ R k := ⟨b, rfl, h⟩
theorem rd_rev (h : te σ H fun x H1 => ∃ a xs, x = .ref a ∧ ((SqL K H1 a xs ∧ ∀ p, H1 p = none → Q (.ref p) (upd H1 p (.lst xs.reverse))) ∨ (SqT K H1 a xs ∧ ∀ p, H1 p = none → Q (.ref p) (upd H1 p (.tup xs.reverse))))) : tRevU K te σ H Q := h
theorem rd_revT {a : Addr} {xs : List V} {R1 R2 : Addr → List V → Prop} (s : SqT K H a xs) (h : R2 a xs) : ∃ a' xs', V.ref a = .ref a' ∧ ((SqL K H a' xs' ∧ R1 a' xs') ∨ (SqT K H a' xs' ∧ R2 a' xs')) := ⟨a, xs, rfl, .inr ⟨s, h⟩⟩
theorem rd_revL {a : Addr} {xs : List V} {R1 R2 : Addr → List V → Prop} (s : SqL K H a xs) (h : R1 a xs) : ∃ a' xs', V.ref a = .ref a' ∧ ((SqL K H a' xs' ∧ R1 a' xs') ∨ (SqT K H a' xs' ∧ R2 a' xs')) := ⟨a, xs, rfl, .inl ⟨s, h⟩⟩
theorem rd_bm {T : String} {r : V → List V → Hp → VK → Prop} {t : TA} (h : te σ H fun x H1 => tyV K T x H1 ∧ t σ H1 fun xs H2 => r x xs H2 Q) : tBM K T r te t σ H Q := h
theorem rd_bm0 {T : String} {r : V → List V → Hp → VK → Prop} (h : te σ H fun x H1 => tyV K T x H1 ∧ r x [] H1 Q) : tBM0 K T r te σ H Q := h
theorem rd_tyL {a : Addr} {xs : List V} {R : Prop} (s : SqL K H a xs) (h : R) : tyV K "list" (.ref a) H ∧ R := ⟨.inl ⟨rfl, xs, s⟩, h⟩
theorem u_app {a : Addr} {xs : List V} {y : V} (e : H a = some (.lst xs)) (l : xs.length < sizeLine) (h : Q .non (upd H a (.lst (xs ++ [y])))) : rAppend (.ref a) [y] H Q := ⟨a, xs, y, rfl, rfl, e, l, h⟩
theorem u_pop {a : Addr} {xs : List V} {y : V} (e : H a = some (.lst xs)) (l : xs[xs.length - 1]? = some y) (h : Q y (upd H a (.lst xs.dropLast))) : rPop (.ref a) [] H Q := ⟨a, xs, y, rfl, rfl, e, l, h⟩
theorem u_extT {a b : Addr} {xs ys : List V} (e : H a = some (.lst xs)) (s : SqT K H b ys) (l : xs.length + ys.length ≤ sizeLine) (h : Q .non (upd H a (.lst (xs ++ ys)))) : rExtU K (.ref a) [.ref b] H Q := .inr ⟨a, b, xs, ys, rfl, rfl, e, s, l, h⟩
theorem rd_for {wi : TI} {g : TG} {tb : TS} {n bk ct : St → Hp → Prop} {rt : VK} (h : wi σ H fun J H1 => ∃ W : Nat → Nat → St → Hp → Prop, (∃ m, W 0 m σ H1) ∧ ∀ i m σ H, W i m σ H →
  (J.stop i H ∧ n σ H) ∨ (J.go i H ∧ ∃ N : St → Hp → Prop, (∀ σ' H', N σ' H' → ∃ m', m' < m ∧ W (i + 1) m' σ' H') ∧ ∀ x H', J.yld i H x H' → g x σ H' fun σ2 H2 => tb ⟨N, rt, n, N⟩ σ2 H2)) : tFor wi g tb ⟨n, rt, bk, ct⟩ σ H := h
theorem rd_iList {R : It → Hp → Prop} (h : te σ H fun x H1 => ∃ a, x = .ref a ∧ (∃ xs, SqL K H1 a xs) ∧ R (Itl K a) H1) : iList K te σ H R := h
theorem rd_iTup {R : It → Hp → Prop} (h : te σ H fun x H1 => ∃ a, x = .ref a ∧ (∃ xs, SqT K H1 a xs) ∧ R (Itt K a) H1) : iTup K te σ H R := h
theorem rd_itL {a : Addr} {xs : List V} {R : Addr → Prop} (s : SqL K H a xs) (h : R a) : ∃ a', V.ref a = .ref a' ∧ (∃ xs, SqL K H a' xs) ∧ R a' := ⟨a, rfl, ⟨xs, s⟩, h⟩
theorem rd_itT {a : Addr} {xs : List V} {R : Addr → Prop} (s : SqT K H a xs) (h : R a) : ∃ a', V.ref a = .ref a' ∧ (∃ xs, SqT K H a' xs) ∧ R a' := ⟨a, rfl, ⟨xs, s⟩, h⟩
theorem rd_rng1 {t : TA} {R : It → Hp → Prop} (h : t σ H fun vs H1 => ∃ j : Int, vs = [.int j] ∧ -(2 ^ 62) ≤ j ∧ j < 2 ^ 62 ∧ R (Itr 0 j.toNat) H1) : iRng1 t σ H R := h
theorem rd_rng2 {t : TA} {R : It → Hp → Prop} (h : t σ H fun vs H1 => ∃ i j : Int, vs = [.int i, .int j] ∧ (-(2 ^ 62) ≤ i ∧ i < 2 ^ 62 ∧ -(2 ^ 62) ≤ j ∧ j < 2 ^ 62) ∧ R (Itr i (j - i).toNat) H1) : iRng2 t σ H R := h
theorem rd_rng1e {i : Int} {R : Int → Prop} (h1 : -(2 ^ 62) ≤ i) (h2 : i < 2 ^ 62) (h : R i) : ∃ j : Int, [V.int i] = [.int j] ∧ -(2 ^ 62) ≤ j ∧ j < 2 ^ 62 ∧ R j := ⟨i, rfl, h1, h2, h⟩
theorem rd_rng2e {i j : Int} {R : Int → Int → Prop} (h1 : -(2 ^ 62) ≤ i ∧ i < 2 ^ 62 ∧ -(2 ^ 62) ≤ j ∧ j < 2 ^ 62) (h : R i j) : ∃ i' j' : Int, [V.int i, V.int j] = [.int i', .int j'] ∧ (-(2 ^ 62) ≤ i' ∧ i' < 2 ^ 62 ∧ -(2 ^ 62) ≤ j' ∧ j' < 2 ^ 62) ∧ R i' j' := ⟨i, j, rfl, h1, h⟩
theorem rd_gtup {n : Nat} {t : TGs} {a : Addr} {xs : List V} {R : St → Hp → Prop} (s : SqT K H a xs) (l : xs.length = n) (h : t xs σ H R) : gTup K n t (.ref a) σ H R := ⟨a, xs, rfl, s, l, h⟩
theorem rd_gcons {t : TG} {u : TGs} {v : V} {r : List V} {R : St → Hp → Prop} (h : t v σ H fun σ' H' => u r σ' H' R) : gCons t u (v :: r) σ H R := ⟨v, r, rfl, h⟩
theorem rd_gnil {R : St → Hp → Prop} (h : R σ H) : gNil [] σ H R := ⟨rfl, h⟩
theorem st0 {N : List Str} {vs : List V} {t : TS} (σ : St) (e : L2.start N vs = σ) (h : t D σ H) : t D (L2.start N vs) H := by rw [e]; exact h
end
end Mine
namespace Mine
open PySem PySem.Spec L2
section
variable {g : TG} {tb : TS} {n : St → Hp → Prop} {rt : VK} {σ : St} {H : Hp} {K : PySem.W.Frag} {a : Addr} {xs : List V}
theorem forR {lo : Int} {m : Nat} (Pv : Nat → St → Hp → Prop) (h0 : Pv 0 σ H)
    (hs : ∀ i σ H, i < m → Pv i σ H → g (.int (lo + i)) σ H fun σ2 H2 => tb ⟨Pv (i + 1), rt, n, Pv (i + 1)⟩ σ2 H2) (hd : ∀ σ H, Pv m σ H → n σ H) :
    ∃ W : Nat → Nat → St → Hp → Prop, (∃ m, W 0 m σ H) ∧ ∀ i m' σ H, W i m' σ H →
      ((Itr lo m).stop i H ∧ n σ H) ∨ ((Itr lo m).go i H ∧ ∃ N : St → Hp → Prop, (∀ σ' H', N σ' H' → ∃ m'', m'' < m' ∧ W (i + 1) m'' σ' H') ∧ ∀ x H', (Itr lo m).yld i H x H' → g x σ H' fun σ2 H2 => tb ⟨N, rt, n, N⟩ σ2 H2) :=
  for_range (D := ⟨n, rt, fun _ _ => False, fun _ _ => False⟩) Pv h0 hs hd
theorem forL (Pv : Nat → St → Hp → Prop) (h0 : Pv 0 σ H) (hl : ∀ i σ H, i ≤ xs.length → Pv i σ H → SqL K H a xs)
    (hs : ∀ i x σ H, xs[i]? = some x → Pv i σ H → g x σ H fun σ2 H2 => tb ⟨Pv (i + 1), rt, n, Pv (i + 1)⟩ σ2 H2) (hd : ∀ σ H, Pv xs.length σ H → n σ H) :
    ∃ W : Nat → Nat → St → Hp → Prop, (∃ m, W 0 m σ H) ∧ ∀ i m σ H, W i m σ H →
      ((Itl K a).stop i H ∧ n σ H) ∨ ((Itl K a).go i H ∧ ∃ N : St → Hp → Prop, (∀ σ' H', N σ' H' → ∃ m', m' < m ∧ W (i + 1) m' σ' H') ∧ ∀ x H', (Itl K a).yld i H x H' → g x σ H' fun σ2 H2 => tb ⟨N, rt, n, N⟩ σ2 H2) :=
  for_list (D := ⟨n, rt, fun _ _ => False, fun _ _ => False⟩) Pv h0 hl hs hd
theorem forT (Pv : Nat → St → Hp → Prop) (h0 : Pv 0 σ H) (hl : ∀ i σ H, i ≤ xs.length → Pv i σ H → SqT K H a xs)
    (hs : ∀ i x σ H, xs[i]? = some x → Pv i σ H → g x σ H fun σ2 H2 => tb ⟨Pv (i + 1), rt, n, Pv (i + 1)⟩ σ2 H2) (hd : ∀ σ H, Pv xs.length σ H → n σ H) :
    ∃ W : Nat → Nat → St → Hp → Prop, (∃ m, W 0 m σ H) ∧ ∀ i m σ H, W i m σ H →
      ((Itt K a).stop i H ∧ n σ H) ∨ ((Itt K a).go i H ∧ ∃ N : St → Hp → Prop, (∀ σ' H', N σ' H' → ∃ m', m' < m ∧ W (i + 1) m' σ' H') ∧ ∀ x H', (Itt K a).yld i H x H' → g x σ H' fun σ2 H2 => tb ⟨N, rt, n, N⟩ σ2 H2) :=
  for_tup (D := ⟨n, rt, fun _ _ => False, fun _ _ => False⟩) Pv h0 hl hs hd
theorem rd_lc {wi : TI} {tt : TT} {te : TE} {vs : List Nat} {Q : VK} (h : wi σ H fun J H1 => ∀ D, H1 D = none → ∃ W : Nat → Nat → Hp → Prop, (∃ m, W 0 m (upd H1 D (.lst []))) ∧ ∀ i m H, W i m H →
  (J.stop i H ∧ Q (.ref D) H) ∨ (J.go i H ∧ ∃ Nx : Hp → Prop, (∀ H', Nx H' → ∃ m', m' < m ∧ W (i + 1) m' H') ∧ ∀ x H', J.yld i H x H' → g x (wipe σ vs) H' fun σ2 H2 => wipe σ2 vs = wipe σ vs ∧ tt σ2 H2 fun b H3 =>
    if b = true then te σ2 H3 fun y H4 => ∃ acc, H4 D = some (.lst acc) ∧ acc.length < sizeLine ∧ Nx (upd H4 D (.lst (acc ++ [y]))) else Nx H3)) : tLc wi g tt te vs σ H Q := h
theorem rd_yes {R : Bool → Hp → Prop} (h : R true H) : tYes σ H R := h
/-- a while -/
theorem rd_while {c : TT} {bk ct : St → Hp → Prop} (Pv : Nat → St → Hp → Prop) (m0 : Nat) (h0 : Pv m0 σ H)
    (hs : ∀ m σ H, Pv m σ H → c σ H fun b H1 => if b = true then (∃ N : St → Hp → Prop, (∀ σ' H', N σ' H' → ∃ m', m' < m ∧ Pv m' σ' H') ∧ tb ⟨N, rt, n, N⟩ σ H1) else n σ H1) :
    tWhile c tb ⟨n, rt, bk, ct⟩ σ H := ⟨Pv, ⟨m0, h0⟩, hs⟩
end
end Mine

/-! ### Kit5 -/
namespace Mine
open PySem PySem.Spec L2
/-! ## a list or a tuple that is walked -/
section
variable {X : Cx} (K : PySem.W.Frag) {tg e : Expr} {te : TE}
def iSeq (K : PySem.W.Frag) (tl : TE) : TI := fun σ H R => tl σ H fun x H1 => ∃ a, x = .ref a ∧ (((∃ xs, SqL K H1 a xs) ∧ R (Itl K a) H1) ∨ ((∃ xs, SqT K H1 a xs) ∧ R (Itt K a) H1))
theorem pi_seqK (he : PE X e te) (h : X.K = K := by rfl) : PI X tg e (iSeq K te) := by
  subst h
  refine ⟨fun pins s σ H R I h => ?_⟩
  refine thn (he.run pins s σ H _ I h) fun v s1 ⟨x, H1, I1, r1, a, ex, q⟩ => ?_
  subst ex
  cases r1
  have it : ∀ b, b ∈ [s1.heap.objs.size] → FpOk X pins H1 b := fun b hb => by
    obtain rfl : b = s1.heap.objs.size := by simpa using hb
    exact I1.fpOk (Nat.le_refl _) (I1.hok.fresh (Nat.le_refl _))
  rcases q with ⟨⟨xs, hx⟩, q⟩ | ⟨⟨xs, hx⟩, q⟩
  · obtain ⟨its, rv, p, hz⟩ := I1.list hx
    exact wpAny_pyIter_list p.isList ⟨s1.heap.objs.size, [s1.heap.objs.size], _, _, H1, rfl, I1.kept (t' := s1.toks) fun b o e => Heap.get?_push_of_some _ e, turn_list a _, ⟨_, Heap.get?_push_size _ rfl, rfl, rfl⟩, it, q⟩
  · obtain ⟨its, rv, p, hz⟩ := I1.tuple hx
    exact wpAny_pyIter_tuple (show s1.heap.IsTuple a its.toArray from p) ⟨s1.heap.objs.size, [s1.heap.objs.size], _, _, H1, rfl, I1.kept (t' := s1.toks) fun b o e => Heap.get?_push_of_some _ e, turn_tuple a _, ⟨_, Heap.get?_push_size _ rfl, rfl, rfl⟩, it, q⟩
theorem kAll (hc : X.calm = true) (h : X.K = K := by rfl) : CallR X (.builtin "all") (rAll K) := by subst h; exact cr_all hc
theorem kAny (hc : X.calm = true) (h : X.K = K := by rfl) : CallR X (.builtin "any") (rAny K) := by subst h; exact cr_any hc
end
section
variable {K : PySem.W.Frag} {σ : St} {H : Hp} {Q : VK} {te : TE} {a : Addr} {xs : List V}
theorem rd_iSeq {R : It → Hp → Prop} (h : te σ H fun x H1 => ∃ a, x = .ref a ∧ (((∃ xs, SqL K H1 a xs) ∧ R (Itl K a) H1) ∨ ((∃ xs, SqT K H1 a xs) ∧ R (Itt K a) H1))) : iSeq K te σ H R := h
theorem rd_seqL {R1 R2 : Addr → Prop} (s : SqL K H a xs) (h : R1 a) : ∃ a', V.ref a = .ref a' ∧ (((∃ xs, SqL K H a' xs) ∧ R1 a') ∨ ((∃ xs, SqT K H a' xs) ∧ R2 a')) := ⟨a, rfl, .inl ⟨⟨xs, s⟩, h⟩⟩
theorem rd_seqT {R1 R2 : Addr → Prop} (s : SqT K H a xs) (h : R2 a) : ∃ a', V.ref a = .ref a' ∧ (((∃ xs, SqL K H a' xs) ∧ R1 a') ∨ ((∃ xs, SqT K H a' xs) ∧ R2 a')) := ⟨a, rfl, .inr ⟨⟨xs, s⟩, h⟩⟩
theorem rd_istr {R : It → Hp → Prop} (h : te σ H fun v H1 => ∃ x, v = .str x ∧ R (Its x) H1) : iStr te σ H R := h
theorem rd_istrE {z : Str} {R : Str → Prop} (h : R z) : ∃ x, V.str z = .str x ∧ R x := ⟨z, rfl, h⟩
theorem u_all {bs : List Bool} (s : SqL K H a (bs.map V.bl)) (h : Q (.bl (bs.all id)) H) : rAll K [.ref a] H Q := ⟨a, bs, rfl, s, h⟩
end
/-- a text walked in a comprehension -/
theorem lcS {x : Str} {g : TG} {tt : TT} {te : TE} {vs : List Nat} {σ : St} {H1 : Hp} {D : Addr} {Qd : Hp → Prop} (Pv : Nat → Hp → Prop) (h0 : Pv 0 (upd H1 D (.lst [])))
    (hs : ∀ i c H, x.cps[i]? = some c → Pv i H → g (.str ⟨#[c]⟩) (wipe σ vs) H fun σ2 H2 => wipe σ2 vs = wipe σ vs ∧ tt σ2 H2 fun b H3 =>
      if b = true then te σ2 H3 fun y H4 => ∃ acc, H4 D = some (.lst acc) ∧ acc.length < sizeLine ∧ Pv (i + 1) (upd H4 D (.lst (acc ++ [y]))) else Pv (i + 1) H3) (hd : ∀ H, Pv x.cps.size H → Qd H) :
    ∃ W : Nat → Nat → Hp → Prop, (∃ m, W 0 m (upd H1 D (.lst []))) ∧ ∀ i m H, W i m H →
      ((Its x).stop i H ∧ Qd H) ∨ ((Its x).go i H ∧ ∃ Nx : Hp → Prop, (∀ H', Nx H' → ∃ m', m' < m ∧ W (i + 1) m' H') ∧ ∀ v H', (Its x).yld i H v H' → g v (wipe σ vs) H' fun σ2 H2 => wipe σ2 vs = wipe σ vs ∧ tt σ2 H2 fun b H3 =>
        if b = true then te σ2 H3 fun y H4 => ∃ acc, H4 D = some (.lst acc) ∧ acc.length < sizeLine ∧ Nx (upd H4 D (.lst (acc ++ [y]))) else Nx H3) := by
  refine ⟨fun i m H => m = x.cps.size - i ∧ i ≤ x.cps.size ∧ Pv i H, ⟨x.cps.size, by simp, Nat.zero_le _, h0⟩, ?_⟩
  rintro i m H ⟨rfl, hi, p⟩
  by_cases hlt : i < x.cps.size
  · refine .inr ⟨hlt, Pv (i + 1), fun H' p' => ⟨x.cps.size - (i + 1), by omega, rfl, hlt, p'⟩, fun v H' y => ?_⟩
    obtain ⟨e, c, hc, ev⟩ := y
    subst e ev
    exact hs i c _ hc p
  · obtain rfl : i = x.cps.size := by omega
    exact .inl ⟨Nat.le_refl _, hd H p⟩
/-! ## isinstance of data -/
def isT (n : String) : PyData → Bool
  | .none => n == "NoneType"
  | .bool _ => n == "bool" || n == "int"
  | .int _ => n == "int"
  | .str _ => n == "str"
  | .tuple _ => n == "tuple"
  | _ => false
theorem tyx_tup {K : PySem.W.Frag} {H : Hp} {a : Addr} {xs : List V} (h : SqT K H a xs) : TyX K H (.ref a) (.type "tuple") := by
  rcases h with (h | ⟨o, h⟩) | ⟨o, its, n, e, c, _⟩
  · exact .base (.tup h)
  · exact .fTuple h
  · exact .kTuple e c
theorem u_isi {K : PySem.W.Frag} {H : Hp} {Q : VK} {v : V} {d : PyData} {n : String} (hn : n = "int" ∨ n = "str" ∨ n = "tuple" ∨ n = "bool") (r : Rp K H v d) (h : Q (.bl (isT n d)) H) : rIsi K [v, .ty n] H Q := by
  cases r with
  | non => rcases hn with rfl | rfl | rfl | rfl <;> exact ⟨_, _, _, _, _, rfl, .ty _, .base .non, kit_ty (by simp only [isT]; decide +kernel), h⟩
  | bl b => rcases hn with rfl | rfl | rfl | rfl <;> exact ⟨_, _, _, _, _, rfl, .ty _, .base (.bl b), kit_ty (by simp only [isT]; decide +kernel), h⟩
  | int i => rcases hn with rfl | rfl | rfl | rfl <;> exact ⟨_, _, _, _, _, rfl, .ty _, .base (.int i), kit_ty (by simp only [isT]; decide +kernel), h⟩
  | str z => rcases hn with rfl | rfl | rfl | rfl <;> exact ⟨_, _, _, _, _, rfl, .ty _, .base (.str z), kit_ty (by simp only [isT]; decide +kernel), h⟩
  | tup s _ => rcases hn with rfl | rfl | rfl | rfl <;> exact ⟨_, _, _, _, _, rfl, .ty _, tyx_tup s, kit_ty (by simp only [isT]; decide +kernel), h⟩
end Mine

/-! ### Kit6 -/
namespace L2
open PySem PySem.Spec PyProof.Rows
/-! ## several except clauses, with names or without -/
abbrev Cl := Value × Option Nat × (Addr → Value → Option Addr → TS)
def endsAt (D : Ends) : Option Nat → Ends
  | none => D
  | some i => { nx := fun σ' H' => D.nx (σ'.set i none) H', rt := D.rt, bk := fun σ' H' => D.bk (σ'.set i none) H', ct := fun σ' H' => D.ct (σ'.set i none) H' }
def stAt (σ : St) (a : Addr) : Option Nat → St
  | none => σ
  | some i => σ.set i (some (.ref a))
def wMix (K : PySem.W.Frag) (Wout : WX) (D : Ends) : List Cl → WX
  | [] => Wout
  | (c, o, ts) :: r => fun cls d σ H => ∃ b, PySem.W.exmOne K cls c = some b ∧ (b = true → ∀ a, H a = none → ts a cls d (endsAt D o) (stAt σ a o) H) ∧ (b = false → wMix K Wout D r cls d σ H)
inductive Hds (X : Cx) : List ExceptHandler → List Cl → Prop
  | nil : Hds X [] []
  | plain {x : Str} {c : Value} {ts : Addr → Value → Option Addr → TS} {b₀ : Stmt} {suite : List Stmt} {np pos' : Pos} {hds : List ExceptHandler} {l : List Cl} (hc : Names X x c)
      (hsu : ∀ (a : Addr) (oe : Obj) (cls : Value) (d : Option Addr) (pn : List (Addr × Obj)), Zc cls d oe → (∃ vs, oe.data = .fields vs) → PSs (X.suite a ((a, oe) :: pn)) (b₀ :: suite) (ts a cls d)) (r : Hds X hds l) :
      Hds X (.ExceptHandler (some (.Name x np)) none (b₀ :: suite) pos' :: hds) ((c, none, ts) :: l)
  | named {x n : Str} {i : Nat} {c : Value} {ts : Addr → Value → Option Addr → TS} {b₀ : Stmt} {suite : List Stmt} {np pos' : Pos} {hds : List ExceptHandler} {l : List Cl} (hc : Names X x c) (hN : X.N.Nodup) (hi : X.N[i]? = some n) (hln : X.env.kindOf n = some .local)
      (hsu : ∀ (a : Addr) (oe : Obj) (cls : Value) (d : Option Addr) (pn : List (Addr × Obj)), Zc cls d oe → (∃ vs, oe.data = .fields vs) → PSs (X.suite a ((a, oe) :: pn)) (b₀ :: suite) (ts a cls d)) (r : Hds X hds l) :
      Hds X (.ExceptHandler (some (.Name x np)) (some n) (b₀ :: suite) pos' :: hds) ((c, some i, ts) :: l)
section
variable {X : Cx} {body : List Stmt} {h₀ : ExceptHandler} {hds : List ExceptHandler} {l : List Cl} {pos : Pos} {tb : WX → TS} {Wout : WX}
theorem ps_try_mix (hs : X.stack = X.env :: X.outer) (hf : X.env.frame = some X.env.locals) (tk : Takes X Wout)
    (hb : ∀ (W : WX) (pn : List (Addr × Obj)) (xe : Value → Shared → Prop), Takes (X.tr pn xe) W → PassesOwn (model X.prog X.w) X.A X.env xe → PSs (X.tr pn xe) body (tb W))
    (K : PySem.W.Frag) (hK : X.K = K) (hh : Hds X (h₀ :: hds) l) : PS X (.Try body (h₀ :: hds) [] [] pos) (fun D σ H => tb (wMix K Wout D l) D σ H) := by
  subst hK
  refine ⟨fun pins s σ H D I h => ?_⟩
  have ok := I.ok
  have hfr : X.A.frames = some (X.env :: X.outer) := by rw [ok.frames, hs]
  refine wpAny_Try_except ?_
  refine wpAny_mono ((hb (wMix X.K Wout D l) (X.pn ++ pins) (fun e s₁ => wpAny (model X.prog X.w) X.A (noteFrame e X.env) (fun _ s₂ => wpAny (model X.prog X.w) X.A (setFlight e none) (fun _ s₃ =>
    wpAny (model X.prog X.w) X.A (handleBy e X.env (h₀ :: hds)) (SP X pins D) X.xe s₃) X.xe s₂) X.xe s₁) (fun u s' xx => ?_) PassesOwn.looking).run [] s σ H D (I.toTry _) h) (fun f s1 hsp => ?_) (fun e s1 he => he)
  · obtain ⟨a, B, sI, pins', σ', H', cls, d, rfl, J', nb, up, sky, na, os, ag, w⟩ := xx
    have J : Inv X pins σ' H' sI := J'.ofTry ok
    have sky' : Sky B (X.env :: X.outer) a (Zc cls d) X.env.locals s'.heap := by rw [← hs]; exact sky
    show wpAny (model X.prog X.w) X.A (noteFrame (.ref a) X.env) _ _ _
    refine Sky.land Zc.steady hfr hf sky' fun h3 fl3 up3 => ?_
    have J3 : Inv X pins σ' H' { s' with heap := h3 } := J.landed nb fl3.1 (up.trans up3) os ag
    obtain ⟨oe3, vs3, he3, hz3, hd3⟩ := fl3.there
    have notFr : ∀ {h : Heap} {o : Obj} {vs : Array Value}, h.FunFrames B (X.env :: X.outer) → h.get? a = some o → o.data = .fields vs → a ∉ frs (X.env :: X.outer) := fun {h o vs} ff e dd hm => by
      obtain ⟨_, o', e', hnf⟩ := ff.mem hm
      rw [e] at e'; cases e'
      exact hnf _ dd
    have nfr := notFr fl3.2.2.1 he3 hd3
    have nL : a ≠ X.env.locals := fun z => nfr (List.mem_filterMap.mpr ⟨X.env, List.mem_cons_self, by rw [hf, z]⟩)
    have nF : a ∉ X.fs := fun hm => by
      obtain ⟨e, he, q⟩ := List.mem_filterMap.mp hm
      exact nfr (List.mem_filterMap.mpr ⟨e, List.mem_cons_of_mem _ he, q⟩)
    have S3 := J3.suite he3 hd3 na nL nF
    have LT : PySem.W.Looks (model X.prog X.w) h3 (typeOf (.ref a)) cls := fun A Q E s k q => wpAny_typeOf_ref (k _ _ he3) (by rw [hz3.1]; exact q)
    have test : ∀ {x : Str} {c : Value} {np : Pos}, Names X x c → ∀ {Q : Value → Shared → Prop} {E : Value → Shared → Prop}, Q c { s' with heap := h3 } → wpAny (model X.prog X.w) (X.A.mark (some (.ref a))) (eval (.Name x np) X.env) Q E { s' with heap := h3 } := fun {x c np} hc {Q E} q => by
      obtain ⟨hg, hdbg, hm | ⟨hm, hv, hnn⟩⟩ := hc
      · exact ld_glob (X := X.suite a ((a, oe3) :: (X.pn ++ pins))) S3 hg hm q hdbg
      · exact ld_blt (X := X.suite a ((a, oe3) :: (X.pn ++ pins))) S3 hg hm hv q hnn hdbg
    have go : ∀ {hds' : List ExceptHandler} {l' : List Cl}, Hds X hds' l' → wMix X.K Wout D l' cls d σ' H' →
        wpAny (model X.prog X.w) X.A (handleBy (.ref a) X.env hds') (SP X pins D) X.xe { s' with heap := h3 } := by
      intro hds' l' hk
      induction hk with
      | nil =>
        intro w
        refine wpAny_handleBy_nil ?_
        obtain ⟨k1, k2, k3, oe, vs, T, oT, ts', he, hz, hd, h1, hr⟩ := id fl3
        unfold PySem.passOn
        refine wpAny_bind (wpAny_field he hd h1 ?_)
        rw [if_neg (show ¬ ((Value.ref T == Value.none) = true) from by simp)]
        have fin : wpAny (model X.prog X.w) X.A (setFlight (.ref a) X.env.frame) (fun _ s4 => wpAny (model X.prog X.w) X.A (throw (.ref a) : Sem Flow) (SP X pins D) X.xe s4) X.xe { s' with heap := h3 } := by
          rw [hf]
          refine HandSPX.setFlight_upZ fl3 fun h4 hh4 up4 => wpAny_throw (tk _ _ ?_)
          exact ⟨a, B, sI, pins, σ', H', cls, d, rfl, J, nb, (up.trans up3).trans up4, .inr (.inr (by rw [hs]; exact hh4)), na, os, ag, w⟩
        first
          | exact wpAny_bind (wpAny_pure (wpAny_bind fin))
          | exact wpAny_bind fin
      | @plain x c ts b₀ suite np pos' hds2 l2 hc hsu r ih =>
        intro w
        obtain ⟨b, hb1, hyes, hno⟩ := w
        have LM := PySem.W.exm_one (M := model X.prog X.w) (J3.kIn) LT hb1
        refine wpAny_handleBy_cons (codeAny_handlers_test ?_) (by intro q; cases q)
        refine test hc (LM.here ?_)
        cases b with
        | true =>
          refine codeAny_handlers_suite ?_
          refine HandSPX.lands_againZ fl3 fun h4 fl4 up4 => ?_
          have J4 : Inv X pins σ' H' { s' with heap := h4 } := J.landed nb fl4.1 ((up.trans up3).trans up4) os ag
          obtain ⟨oe4, vs4, he4, hz4, hd4⟩ := fl4.there
          have S4 := J4.suite he4 hd4 na nL nF
          refine wpAny_mono ((hsu a oe4 cls d (X.pn ++ pins) hz4 ⟨_, hd4⟩).run [] _ _ H' _ S4 (hyes rfl a na)) (fun f s6 hsp => ?_) (fun _ _ z => False.elim z)
          cases f with
          | next =>
            obtain ⟨σ6, H6, S6, q6⟩ := hsp
            exact ⟨_, _, S6.unsuite ok, q6⟩
          | brk =>
            obtain ⟨σ6, H6, S6, q6⟩ := hsp
            exact ⟨_, _, S6.unsuite ok, q6⟩
          | cont =>
            obtain ⟨σ6, H6, S6, q6⟩ := hsp
            exact ⟨_, _, S6.unsuite ok, q6⟩
          | ret u =>
            obtain ⟨v6, σ6, H6, S6, r6, q6⟩ := hsp
            exact ⟨_, _, _, S6.unsuite ok, r6, q6⟩
        | false =>
          show wpAny _ X.A (handleBy (.ref a) X.env hds2) _ _ _
          exact ih (hno rfl)
      | @named x n i c ts b₀ suite np pos' hds2 l2 hc hN hi hln hsu r ih =>
        intro w
        obtain ⟨b, hb1, hyes, hno⟩ := w
        have LM := PySem.W.exm_one (M := model X.prog X.w) (J3.kIn) LT hb1
        have hloc : Loc X.env.scope n := .inl hln
        refine wpAny_handleBy_cons (codeAny_handlers_test ?_) (by intro q; cases q)
        refine test hc (LM.here ?_)
        cases b with
        | true =>
          refine codeAny_handlers_suite_as ?_
          refine HandSPX.lands_againZ fl3 fun h4 fl4 up4 => ?_
          have J4 : Inv X pins σ' H' { s' with heap := h4 } := J.landed nb fl4.1 ((up.trans up3).trans up4) os ag
          obtain ⟨oe4, vs4, he4, hz4, hd4⟩ := fl4.there
          have S4 := J4.suite he4 hd4 na nL nF
          refine store_ok (X := X.suite a ((a, oe4) :: (X.pn ++ pins))) (v := .ref a) S4 hN hi hloc rfl (fun s5 S5 => ?_) (.inr hln)
          refine wpAny_mono ((hsu a oe4 cls d (X.pn ++ pins) hz4 ⟨_, hd4⟩).run [] s5 _ H' _ S5 (hyes rfl a na)) (fun f s6 hsp => ?_) (fun _ _ z => False.elim z)
          have end_ : ∀ {σ6 : St} {H6 : Hp} {Q : Shared → Prop}, Inv (X.suite a ((a, oe4) :: (X.pn ++ pins))) [] σ6 H6 s6 → (∀ s7, Inv X pins (σ6.set i none) H6 s7 → Q s7) →
              wpAny (model X.prog X.w) X.A (do bindName X.env n .none; unbindBehindTheSuite X.env n pos') (fun _ s7 => Q s7) X.xe s6 := fun {σ6 H6 Q} S6 hq => gone_ok (S6.unsuite ok) hN hi hln hq
          cases f with
          | next =>
            obtain ⟨σ6, H6, S6, q6⟩ := hsp
            exact end_ S6 fun s7 J7 => ⟨_, _, J7, q6⟩
          | brk =>
            obtain ⟨σ6, H6, S6, q6⟩ := hsp
            exact end_ S6 fun s7 J7 => ⟨_, _, J7, q6⟩
          | cont =>
            obtain ⟨σ6, H6, S6, q6⟩ := hsp
            exact end_ S6 fun s7 J7 => ⟨_, _, J7, q6⟩
          | ret u =>
            obtain ⟨v6, σ6, H6, S6, r6, q6⟩ := hsp
            exact end_ S6 fun s7 J7 => ⟨_, _, _, J7, r6, q6⟩
        | false =>
          show wpAny _ X.A (handleBy (.ref a) X.env hds2) _ _ _
          exact ih (hno rfl)
    exact go hh w
  · cases f with
    | next =>
      obtain ⟨σ', H', J', q⟩ := hsp
      exact wpAny_execs_nil ⟨σ', H', J'.ofTry ok, q⟩
    | brk =>
      obtain ⟨σ', H', J', q⟩ := hsp
      exact ⟨σ', H', J'.ofTry ok, q⟩
    | cont =>
      obtain ⟨σ', H', J', q⟩ := hsp
      exact ⟨σ', H', J'.ofTry ok, q⟩
    | ret u =>
      obtain ⟨v, σ', H', J', r, q⟩ := hsp
      exact ⟨v, σ', H', J'.ofTry ok, r, q⟩
end
end L2

/-! ### Kit7 -/
namespace Mine
open PySem PySem.Spec L2
/-! ## own errors over ValueError, made by the __init__ of their root: self.what = what -/
def spInit (K : PySem.W.Frag) : Sp := fun vs H Q _ => ∃ (a C : Addr) (v : V), vs = [.ref a, v] ∧ OexC K C ∧ PySem.W.findIn K (.ref C) "what" = some none ∧ H a = some (exo a C none) ∧
  ∀ dx, H dx = none → dx ≠ a → Q .non (upd (upd H dx (exd dx [("what", v)])) a (exo a C (some dx)))
/-- what the written part says of the error class of the name x -/
structure ErrC (K : PySem.W.Frag) (mg : Str → Option Value) (fI : Addr) (x : Str) (C : Addr) : Prop where
  g : mg x = some (.ref C)
  c : OexC K C
  n : PySem.W.findIn K (.ref C) "what" = some none
  i : PySem.W.findIn K (.ref C) "__init__" = some (some (.ref fI))
  f : XfC K C
/-- the root's __init__ -/
def InitF (P : Program) (w : World) (K : PySem.W.Frag) (mg : Str → Option Value) (base : Heap) (fI : Addr) : Prop :=
  PySem.W.typeIn K (.ref fI) = some (.type "function") ∧ ∃ fd : FuncData, FnOk P w K mg base CX0 1 fI fd ["self", "what"] (spInit K) ∧ Binds K fd ["self", "what"] []
theorem has_init {P : Program} {w : World} {K : PySem.W.Frag} {mg : Str → Option Value} {base : Heap} {fI : Addr} {fd : FuncData} {st : Stmt} {qual : Str} (F : Fun K "__init__" qual st fI fd) (hS : FnScope ["self", "what"] ["self", "what"] (defScope st))
    (hb : ∀ (kV doc pm : Value) (an : Option Addr) (cdv ct : Value) (us : List Value), us.length = 2 → bindArgs (PySem.W.fnOf "__init__" qual (defArgs st) (defBody st) (defScope st) .none kV doc pm an cdv ct) ⟨us, []⟩ = pure ((["self", "what"] : List Str).zip us))
    (ht : PySem.W.typeIn K (.ref fI) = some (.type "function"))
    (body : ∀ (cdv : Value) (A : Around) (outer : List Env) (s : Shared) (H : Hp) (E : XK), PSs (cxOf CX0 P w K mg base ["self", "what"] qual (defScope st) fI cdv A outer s H E).nox (defBody st) (tOst K "what" (tVar 0) (tVar 1))) :
    InitF P w K mg base fI := by
  refine ⟨ht, fd, ?_, F.binds hb⟩
  refine F.ok (k := 0) hS (fun vs H Q E h => ?_) (fun cdv A outer s H vs Q E hr h => ⟨_, body cdv A outer s H E, ?_⟩)
  · obtain ⟨a, C, v, rfl, _⟩ := h
    rfl
  obtain ⟨a, C, v, rfl, hc, hn, ha, q⟩ := h
  exact ⟨v, rfl, .ref a, rfl, a, C, rfl, hc, hn, .inl ⟨ha, q⟩⟩
section
variable {X : Cx} {W : WX}
/-- what the making of x(v) asks -/
def RaiseAt (K : PySem.W.Frag) (C : Addr) (W : WX) (σ : St) (v : V) (H1 : Hp) : Prop := [v].length ≤ 1000 ∧ ∀ a, H1 a = none → spInit K (.ref a :: ([v] ++ [])) (upd H1 a (exo a C none))
  (fun u H2 => u = .non ∧ ∃ (d : Addr) (fs : List (Str × V)), H2 a = some (exo a C (some d)) ∧ H2 d = some (exd d fs) ∧ H1 d = none ∧ W (.ref C) (some d) σ (upd (del H2 a) d (.xd fs))) (fun _ _ _ => False)
def tRaiseE (K : PySem.W.Frag) (C : Addr) (W : WX) (te : TE) : TS := fun _ σ H => te σ H fun v H1 => RaiseAt K C W σ v H1
theorem ps_raiseE {fI C : Addr} {x : Str} {p pos pos2 : Pos} {e : Expr} {te : TE} (K : PySem.W.Frag) (hI : InitF X.prog X.w X.K X.mg X.base fI) (M : ErrC X.K X.mg fI x C) (hc : X.calm = true) (hr : Room 2 X.A) (tk : Takes X W) (he : PE X e te) (hg : Gl X x) (hK : X.K = K := by rfl)
    (hs : starEach [e] X.env = (false, eval e X.env) :: starEach [] X.env := by rfl) (hpl : (backTo pos (starEach [] X.env)).any (·.1) = false := by rfl) (hdb : (x == ("__debug__" : Str)) = false := by decide) :
    PS X (.Raise (some (.Call (.Name x p) [e] [] pos)) none pos2) (tRaiseE K C W te) := by
  subst hK
  obtain ⟨ht, fd, F, hb⟩ := hI
  exact ps_raise hc tk (pmk_oex (pos := pos) (p := p) (dvs := []) M.c M.i ht F hr hb .nil (fun _ _ _ _ _ _ _ z => z.elim) hg M.g (pa_cons he pa_nil hs) hdb hs hpl) (pos := pos2)
theorem rd_raiseE {K : PySem.W.Frag} {C : Addr} {te : TE} {D : Ends} {σ : St} {H : Hp} (h : te σ H fun v H1 => RaiseAt K C W σ v H1) : tRaiseE K C W te D σ H := h
theorem exd_ne_exo {a d C : Addr} {o : Option Addr} {fs : List (Str × V)} : True := trivial
theorem u_raise {K : PySem.W.Frag} {C : Addr} {σ : St} {v : V} {H : Hp} (c : OexC K C) (n : PySem.W.findIn K (.ref C) "what" = some none) (h : ∀ d, H d = none → W (.ref C) (some d) σ (upd H d (.xd [("what", v)]))) : RaiseAt K C W σ v H := by
  refine ⟨by show 1 ≤ 1000; decide, fun a ha => ⟨a, C, v, rfl, c, n, upd_same, fun dx hdx hne => ⟨rfl, dx, [("what", v)], ?_, ?_, ?_, ?_⟩⟩⟩
  · exact upd_same
  · rw [upd_ne hne, upd_same]
  · rw [upd_ne hne] at hdx; exact hdx
  · have hd : H dx = none := by rw [upd_ne hne] at hdx; exact hdx
    have e : upd (del (upd (upd (upd H a (exo a C none)) dx (exd dx [("what", v)])) a (exo a C (some dx))) a) dx (.xd [("what", v)]) = upd H dx (.xd [("what", v)]) := by
      funext b
      by_cases h1 : b = dx
      · subst h1; rw [upd_same, upd_same]
      · rw [upd_ne h1, upd_ne h1]
        by_cases h2 : b = a
        · subst h2; rw [del_same, ha]
        · rw [del_ne h2, upd_ne h2, upd_ne h1, upd_ne h2]
    rw [e]
    exact h dx hd
end
/-- what leaves a def that may raise -/
theorem tkX {P : Program} {w : World} {K : PySem.W.Frag} {mg : Str → Option Value} {base : Heap} {N : List Str} {qual : Str} {scope : Scope} {f : Addr} {cd : Value} {A : Around} {outer : List Env} {s : Shared} {H : Hp} {E : XK} :
    Takes (cxOf (L2.CX P w) P w K mg base N qual scope f cd A outer s H E) (fun cls d _ H' => E cls d H') := takes_of rfl rfl rfl rfl
theorem poX {P : Program} {w : World} {K : PySem.W.Frag} {mg : Str → Option Value} {base : Heap} {N : List Str} {qual : Str} {scope : Scope} {f : Addr} {cd : Value} {A : Around} {outer : List Env} {s : Shared} {H : Hp} {E : XK} :
    PassesOwn (model P w) (cxOf (L2.CX P w) P w K mg base N qual scope f cd A outer s H E).A (cxOf (L2.CX P w) P w K mg base N qual scope f cd A outer s H E).env (cxOf (L2.CX P w) P w K mg base N qual scope f cd A outer s H E).xe := passes_of (X := cxOf (L2.CX P w) P w K mg base N qual scope f cd A outer s H E) rfl
/-! ## a dict of the module, text keys -/
/-- at x: a dict that tells g of a text -/
structure Tab (w : World) (K : PySem.W.Frag) (mg : Str → Option Value) (x : Str) (a : Addr) (g : Str → Option Value) : Prop where
  m : mg x = some (.ref a)
  d : ∃ es n, KDict K w a es n
  t : ∀ z, PySem.W.nsIn K a z = some (g z)
section
variable {X : Cx}
def rInD (a : Addr) (g : Str → Option Value) : R2 := fun x y H Q => ∃ z, x = .str z ∧ y = .ref a ∧ Q (.bl (g z).isSome) H
def rNotInD (a : Addr) (g : Str → Option Value) : R2 := fun x y H Q => ∃ z, x = .str z ∧ y = .ref a ∧ Q (.bl (!(g z).isSome)) H
theorem op_inD {x : Str} {a : Addr} {g : Str → Option Value} (T : Tab X.w X.K X.mg x a g) : OpR X (compareOp .In) (rInD a g) := by
  obtain ⟨es, n, D⟩ := T.d
  intro pins s σ H u y v v2 Q I rx ry h
  obtain ⟨z, rfl, rfl, q⟩ := h
  exact op_in_kd D pins s σ H _ _ v v2 Q I rx ry ⟨z, _, rfl, rfl, T.t z, q⟩
theorem op_notInD {x : Str} {a : Addr} {g : Str → Option Value} (T : Tab X.w X.K X.mg x a g) : OpR X (compareOp .NotIn) (rNotInD a g) := by
  obtain ⟨es, n, D⟩ := T.d
  intro pins s σ H u y v v2 Q I rx ry h
  obtain ⟨z, rfl, rfl, q⟩ := h
  exact op_notIn_kd D pins s σ H _ _ v v2 Q I rx ry ⟨z, _, rfl, rfl, T.t z, q⟩
def rIxT' (a : Addr) (g : Str → Option Value) : R2 := fun x y H Q => ∃ z u v, x = .ref a ∧ y = .str z ∧ g z = some u ∧ RelV v u ∧ Q v H
theorem ix_tab {x : Str} {a : Addr} {g : Str → Option Value} (T : Tab X.w X.K X.mg x a g) : IxR X (rIxT' a g) := by
  obtain ⟨es, n, D⟩ := T.d
  intro value slice pins s σ H u y v v2 Q I rx ry h hs
  obtain ⟨z, u0, v0, rfl, rfl, e, r, q⟩ := h
  exact ix_kdict value slice pins s σ H _ _ v v2 Q I rx ry ⟨a, z, v0, rfl, rfl, ⟨es, n, u0, D.at_, D.lit, by rw [T.t z, e], r⟩, q⟩ hs
theorem u_inD {a : Addr} {g : Str → Option Value} {z : Str} {H : Hp} {Q : VK} (h : Q (.bl (g z).isSome) H) : rInD a g (.str z) (.ref a) H Q := ⟨z, rfl, rfl, h⟩
theorem u_notInD {a : Addr} {g : Str → Option Value} {z : Str} {H : Hp} {Q : VK} (h : Q (.bl (!(g z).isSome)) H) : rNotInD a g (.str z) (.ref a) H Q := ⟨z, rfl, rfl, h⟩
theorem u_ixTab {a : Addr} {g : Str → Option Value} {z : Str} {u : Value} {v : V} {H : Hp} {Q : VK} (e : g z = some u) (r : RelV v u) (h : Q v H) : rIxT' a g (.ref a) (.str z) H Q := ⟨z, u, v, rfl, rfl, e, r, h⟩
/-- the call of a def that a local name holds -/
def tCallV (P : Program) (w : World) (K : PySem.W.Frag) (mg : Str → Option Value) (base : Heap) (k : Nat) (i : Nat) (t : TA) : TE := fun σ H Q => ∃ f sp, σ[i]? = some (some (.ref f)) ∧ Held P w K mg base k f sp ∧ t σ H fun vs H1 => sp vs H1 Q E0
theorem pe_callV {P : Program} {w : World} {K : PySem.W.Frag} {mg : Str → Option Value} {base : Heap} {k i : Nat} {x : Str} {p pos : Pos} {e : Expr} {es : List Expr} {t : TA} (h1 : X.prog = P) (h2 : X.w = w) (h3 : X.K = K) (h4 : X.mg = mg) (h5 : X.base = base) (hr : Room k X.A) (hN : X.N[i]? = some x) (hv : Vis X.env.scope x) (ha : PA X (e :: es) t)
    (hdb : (x == ("__debug__" : Str)) = false := by decide) (hcd : (x == ("__classdict__" : Str)) = false := by decide)
    (he : starEach (e :: es) X.env = (false, eval e X.env) :: starEach es X.env := by rfl) (hpl : (backTo pos (starEach es X.env)).any (·.1) = false := by rfl) : PE X (.Call (.Name x p) (e :: es) [] pos) (tCallV P w K mg base k i t) := by
  subst h1 h2 h3 h4 h5
  refine ⟨fun pins s σ H Q I h => ?_⟩
  obtain ⟨f, sp, hs, hH, ht⟩ := h
  obtain ⟨fd, ps, F, hk, hb⟩ := hH.ex
  refine (pe_callL (i := i) (f := f) (sp := sp) (dvs := []) (E := fun _ _ _ => False) F hr hN hv hk hb .nil (fun _ _ _ _ _ _ _ z => z.elim) ha hdb hcd he hpl).run pins s σ H Q I ⟨hs, ?_⟩
  have e0 : (fun (vs : List V) (H1 : Hp) => sp (vs ++ []) H1 Q (fun _ _ _ => False)) = fun vs H1 => sp vs H1 Q E0 := by
    funext vs H1; rw [List.append_nil]
  show t σ H (fun vs H1 => sp (vs ++ []) H1 Q (fun _ _ _ => False))
  rw [e0]
  exact ht
theorem rd_callV {P : Program} {w : World} {K : PySem.W.Frag} {mg : Str → Option Value} {base : Heap} {k i : Nat} {t : TA} {σ : St} {H : Hp} {Q : VK} {f : Addr} {sp : Sp} (e : σ[i]? = some (some (.ref f))) (hH : Held P w K mg base k f sp) (h : t σ H fun vs H1 => sp vs H1 Q E0) : tCallV P w K mg base k i t σ H Q := ⟨f, sp, e, hH, h⟩
theorem HasF.held {P : Program} {w : World} {K : PySem.W.Frag} {mg : Str → Option Value} {base : Heap} {k : Nat} {x : Str} {ps : List Str} {sp : Sp} (h : HasF P w K mg base CX0 k x ps sp) : ∃ f, mg x = some (.ref f) ∧ Held P w K mg base k f sp := by
  obtain ⟨f, fd, F, m, kp, b⟩ := h
  exact ⟨f, m, ⟨fd, ps, F, kp, b⟩⟩
theorem u_inS {K : PySem.W.Frag} {c : Nat} {z : Str} {H : Hp} {Q : VK} (h : Q (.bl (decide (c ∈ z.cps.toList))) H) : rInU K (.str ⟨#[c]⟩) (.str z) H Q := .inr ⟨c, z, rfl, rfl, h⟩
theorem u_notInS {K : PySem.W.Frag} {c : Nat} {z : Str} {H : Hp} {Q : VK} (h : Q (.bl (!decide (c ∈ z.cps.toList))) H) : rNotInU K (.str ⟨#[c]⟩) (.str z) H Q := .inr ⟨c, z, rfl, rfl, h⟩
end
section
variable {K : PySem.W.Frag} {H : Hp} {xs : List V} {ds : List PyData}
theorem Rps.none (h : Rps K H xs ds) (l : (xs.length : Int) = 0) : xs = [] ∧ ds = [] := by
  cases h with
  | nil => exact ⟨rfl, rfl⟩
  | cons a r => rw [List.length_cons] at l; omega
theorem Rps.only (h : Rps K H xs ds) (l : (xs.length : Int) = 1) : ∃ x d, xs = [x] ∧ ds = [d] ∧ Rp K H x d := by
  cases h with
  | nil => cases l
  | cons a r =>
    cases r with
    | nil => exact ⟨_, _, rfl, rfl, a⟩
    | cons b r => rw [List.length_cons, List.length_cons] at l; omega
theorem Rps.pair (h : Rps K H xs ds) (l : (xs.length : Int) = 2) : ∃ x y d e, xs = [x, y] ∧ ds = [d, e] ∧ Rp K H x d ∧ Rp K H y e := by
  cases h with
  | nil => cases l
  | cons a r =>
    cases r with
    | nil => cases l
    | cons b r =>
      cases r with
      | nil => exact ⟨_, _, _, _, rfl, rfl, a, b⟩
      | cons c r => rw [List.length_cons, List.length_cons, List.length_cons] at l; omega
theorem Rps.three (h : Rps K H xs ds) (l : (xs.length : Int) = 3) : ∃ x y z d e f, xs = [x, y, z] ∧ ds = [d, e, f] ∧ Rp K H x d ∧ Rp K H y e ∧ Rp K H z f := by
  cases h with
  | nil => cases l
  | cons a r =>
    cases r with
    | nil => cases l
    | cons b r =>
      cases r with
      | nil => cases l
      | cons c r =>
        cases r with
        | nil => exact ⟨_, _, _, _, _, _, rfl, rfl, a, b, c⟩
        | cons c2 r => rw [List.length_cons, List.length_cons, List.length_cons, List.length_cons] at l; omega
end
end Mine
namespace Mine
open PySem PySem.Spec L2
section
variable {σ : St} {H : Hp} {Q : VK} {te : TE}
theorem rd_retE {n bk ct : St → Hp → Prop} {rt : VK} {o : Option Nat} (h : te σ H rt) : tRet te (endsAt ⟨n, rt, bk, ct⟩ o) σ H := by cases o <;> exact h
theorem rd_xf {a C : Addr} {cls : Value} {d : Option Addr} {f : Str} (h : te σ H fun x H1 => x = .ref a ∧ cls = .ref C ∧ ∃ (dd : Addr) (fs : List (Str × V)) (v : V), d = some dd ∧ H1 dd = some (.xd fs) ∧ fs.lookup f = some v ∧ Q v H1) : tXf a cls d C f te σ H Q := h
theorem u_xf {a C dd : Addr} {cls : Value} {v : V} {R : V → Prop} (ec : cls = .ref C) (e : H dd = some (.xd [("what", v)])) (h : R v) : V.ref a = .ref a ∧ cls = .ref C ∧ ∃ (dd' : Addr) (fs : List (Str × V)) (v' : V), some dd = some dd' ∧ H dd' = some (.xd fs) ∧ fs.lookup ("what" : Str) = some v' ∧ R v' :=
  ⟨rfl, ec, dd, [("what", v)], v, rfl, e, by simp [List.lookup], h⟩
end
end Mine

/-! ### Kit8 -/
namespace Mine
open PySem PySem.Spec L2
section
variable {X : Cx}
/-! ## == and != of numbers, texts, data of any depth below 200 -/
def rEqG (K : PySem.W.Frag) : R2 := fun x y H Q => (scal x y = true ∧ Q (.bl (decide (x = y))) H) ∨
  ∃ d e, Dp K H x d ∧ Dp K H y e ∧ d.canLay0 = true ∧ e.canLay0 = true ∧ min d.depth e.depth ≤ 199 ∧ Q (.bl (PyData.eqv d e)) H
def rNeG (K : PySem.W.Frag) : R2 := fun x y H Q => (scal x y = true ∧ Q (.bl (!decide (x = y))) H) ∨
  ∃ d e, Dp K H x d ∧ Dp K H y e ∧ d.canLay0 = true ∧ e.canLay0 = true ∧ min d.depth e.depth ≤ 199 ∧ Q (.bl (!PyData.eqv d e)) H
theorem hU {k : Nat} {A : Around} (r : Room k A) : A.units + 200 < cLine := by have := r.un; omega
theorem kEqG (K : PySem.W.Frag) (hu : X.A.units + 200 < cLine) (h : X.K = K := by rfl) : OpR X (compareOp .Eq) (rEqG K) := by
  subst h
  refine op_eq.or ?_
  intro pins s σ H x y v u Q I rx ry h
  obtain ⟨d, e, hd, he, sd, se, dd, q⟩ := h
  obtain ⟨as, r1⟩ := Dp.reads I d x v hd rx
  obtain ⟨bs, r2⟩ := Dp.reads I e y u he ry
  exact SeqAt.compareEq_reads r1 r2 sd se (by omega) ⟨.bl _, H, I, rfl, q⟩
theorem kNeG (K : PySem.W.Frag) (hu : X.A.units + 200 < cLine) (h : X.K = K := by rfl) : OpR X (compareOp .NotEq) (rNeG K) := by
  subst h
  refine op_ne.or ?_
  intro pins s σ H x y v u Q I rx ry h
  obtain ⟨d, e, hd, he, sd, se, dd, q⟩ := h
  obtain ⟨as, r1⟩ := Dp.reads I d x v hd rx
  obtain ⟨bs, r2⟩ := Dp.reads I e y u he ry
  exact SeqAt.compareNe_reads r1 r2 sd se (by omega) ⟨.bl _, H, I, rfl, q⟩
end
section
variable {K : PySem.W.Frag} {H : Hp} {Q : VK} {i j : Int} {z z' : Str} {x y : V} {d e : PyData} {a : Addr} {xs : List V}
theorem dV_int : decide (V.int i = V.int j) = decide (i = j) := by
  by_cases c : i = j
  · rw [decide_eq_true c, decide_eq_true (congrArg V.int c)]
  · rw [decide_eq_false c, decide_eq_false (fun q => c (V.int.inj q))]
theorem dV_str : decide (V.str z = V.str z') = decide (z = z') := by
  by_cases c : z = z'
  · rw [decide_eq_true c, decide_eq_true (congrArg V.str c)]
  · rw [decide_eq_false c, decide_eq_false (fun q => c (V.str.inj q))]
theorem dV_bl {x y : Bool} : decide (V.bl x = V.bl y) = decide (x = y) := by cases x <;> cases y <;> rfl
theorem g_eqI (h : Q (.bl (decide (i = j))) H) : rEqG K (.int i) (.int j) H Q := .inl ⟨rfl, by rw [dV_int]; exact h⟩
theorem g_eqS (h : Q (.bl (decide (z = z'))) H) : rEqG K (.str z) (.str z') H Q := .inl ⟨rfl, by rw [dV_str]; exact h⟩
theorem g_neI (h : Q (.bl (!decide (i = j))) H) : rNeG K (.int i) (.int j) H Q := .inl ⟨rfl, by rw [dV_int]; exact h⟩
theorem g_neS (h : Q (.bl (!decide (z = z'))) H) : rNeG K (.str z) (.str z') H Q := .inl ⟨rfl, by rw [dV_str]; exact h⟩
theorem g_neB {x y : Bool} (h : Q (.bl (!decide (x = y))) H) : rNeG K (.bl x) (.bl y) H Q := .inl ⟨rfl, by rw [dV_bl]; exact h⟩
theorem g_eqD (hx : Dp K H x d) (hy : Dp K H y e) (c1 : d.canLay0 = true) (c2 : e.canLay0 = true) (dd : min d.depth e.depth ≤ 199) (h : Q (.bl (PyData.eqv d e)) H) : rEqG K x y H Q := .inr ⟨d, e, hx, hy, c1, c2, dd, h⟩
theorem g_neD (hx : Dp K H x d) (hy : Dp K H y e) (c1 : d.canLay0 = true) (c2 : e.canLay0 = true) (dd : min d.depth e.depth ≤ 199) (h : Q (.bl (!PyData.eqv d e)) H) : rNeG K x y H Q := .inr ⟨d, e, hx, hy, c1, c2, dd, h⟩
theorem u_inL (s : SqL K H a xs) (fx : flatV x = true) (fxs : xs.all flatV = true) (h : Q (.bl (inV x xs)) H) : rInU K x (.ref a) H Q := .inl ⟨a, xs, rfl, .inl s, fx, fxs, h⟩
theorem u_inT (s : SqT K H a xs) (fx : flatV x = true) (fxs : xs.all flatV = true) (h : Q (.bl (inV x xs)) H) : rInU K x (.ref a) H Q := .inl ⟨a, xs, rfl, .inr s, fx, fxs, h⟩
end
/-! ## data -/
def okS (z : Str) : Prop := z.length ≤ 1000 ∧ PyData.canLay0 (.str z) = true
mutual
def dat : PyData → Prop
  | .none => True
  | .int _ => True
  | .str z => okS z
  | .tuple ds => ds.length ≤ 1000 ∧ dats ds
  | _ => False
def dats : List PyData → Prop
  | [] => True
  | d :: r => dat d ∧ dats r
end
mutual
theorem dat_lay : ∀ d : PyData, dat d → d.canLay0 = true
  | .none, _ => by simp only [PyData.canLay0]
  | .int _, _ => by simp only [PyData.canLay0]
  | .str z, h => by
    have h' : okS z := by simpa only [dat] using h
    exact h'.2
  | .tuple ds, h => by
    have h' : ds.length ≤ 1000 ∧ dats ds := by simpa only [dat] using h
    simp only [PyData.canLay0]
    exact dats_lay ds h'.2
  | .bool _, h => by simp only [dat] at h
  | .list _, h => by simp only [dat] at h
  | .dict _, h => by simp only [dat] at h
theorem dats_lay : ∀ ds : List PyData, dats ds → PyData.canLayAll0 ds = true
  | [], _ => by simp only [PyData.canLayAll0]
  | d :: r, h => by
    have h' : dat d ∧ dats r := by simpa only [dats] using h
    simp only [PyData.canLayAll0, dat_lay d h'.1, dats_lay r h'.2, Bool.and_self]
end
mutual
theorem eqv_same : ∀ d : PyData, dat d → PyData.eqv d d = true
  | .none, _ => by simp [PyData.eqv]
  | .int _, _ => by simp [PyData.eqv]
  | .str z, _ => by simp [PyData.eqv]
  | .tuple ds, h => by
    have h' : ds.length ≤ 1000 ∧ dats ds := by simpa only [dat] using h
    simp only [PyData.eqv]
    exact eqvs_same ds h'.2
  | .bool _, h => by simp only [dat] at h
  | .list _, h => by simp only [dat] at h
  | .dict _, h => by simp only [dat] at h
theorem eqvs_same : ∀ ds : List PyData, dats ds → PyData.eqvAll ds ds = true
  | [], _ => by simp [PyData.eqvAll]
  | d :: r, h => by
    have h' : dat d ∧ dats r := by simpa only [dats] using h
    simp only [PyData.eqvAll, eqv_same d h'.1, eqvs_same r h'.2, Bool.and_self]
end
end Mine

/-! ### R00 -/
namespace Mine
open PySem PySem.Spec L2
def top (i : Nat) : Stmt := PySem.Challenge.pw_hillrooms_k00_programs_and_their_errors.main.body.getD i (.Pass ⟨0, 0, 0, 0⟩)
/-- no global stands before these built-ins -/
structure Bl (mg : Str → Option Value) : Prop where
  all : mg "all" = none
  bool : mg "bool" = none
  int : mg "int" = none
  isinstance : mg "isinstance" = none
  len : mg "len" = none
  max : mg "max" = none
  min : mg "min" = none
  range : mg "range" = none
  str : mg "str" = none
  tuple : mg "tuple" = none
/-- the source of draws: two numbers -/
def Src (H : Hp) (a : Addr) : Prop := ∃ b s : Int, H a = some (.lst [.int b, .int s]) ∧ 0 ≤ b ∧ 0 ≤ s ∧ s < 2147483647
theorem Src.ext {K : PySem.W.Frag} {H H' : Hp} {a : Addr} (h : Src H a) (s : SB a H H') : Ext K H H' := by
  obtain ⟨b, t, e, _⟩ := h
  exact Ext.of_SB s e trivial
theorem Src.ne {H : Hp} {a p : Addr} (h : Src H a) (hp : H p = none) : p ≠ a := by
  obtain ⟨b, t, e, _⟩ := h
  intro z
  rw [z, e] at hp
  cases hp
theorem Src.new {H : Hp} {a p : Addr} {o : HO} (h : Src H a) (hp : H p = none) : Src (upd H p o) a := by
  have n := h.ne hp
  obtain ⟨b, t, e, x⟩ := h
  exact ⟨b, t, by rw [upd_ne n.symm]; exact e, x⟩
theorem Src.set {H : Hp} {a p : Addr} {o : HO} (h : Src H a) (n : p ≠ a) : Src (upd H p o) a := by
  obtain ⟨b, t, e, x⟩ := h
  exact ⟨b, t, by rw [upd_ne n.symm]; exact e, x⟩
theorem Src.same {H H' : Hp} {a : Addr} (h : Src H a) (s : Same H H') : Src H' a := by
  obtain ⟨b, t, e, x⟩ := h
  exact ⟨b, t, s _ _ e, x⟩
/-- one draw -/
def spTake : Sp := fun vs H Q _ => ∃ (a : Addr) (t : Int), vs = [.ref a, .int t] ∧ Src H a ∧ 0 < t ∧ t < 1073741824 ∧
  ∀ (H' : Hp) (r : Int), SB a H H' → Src H' a → 0 ≤ r → r < t → Q (.int r) H'
theorem use_take {a : Addr} {t : Int} {H : Hp} {Q : VK} {E : XK} (h : Src H a) (h1 : 0 < t) (h2 : t < 1073741824) (q : ∀ (H' : Hp) (r : Int), SB a H H' → Src H' a → 0 ≤ r → r < t → Q (.int r) H') :
    spTake [.ref a, .int t] H Q E := ⟨a, t, rfl, h, h1, h2, q⟩
/-- one of a list -/
def spOne (K : PySem.W.Frag) : Sp := fun vs H Q _ => ∃ (a p : Addr) (xs : List V), vs = [.ref a, .ref p] ∧ Src H a ∧ SqL K H p xs ∧ p ≠ a ∧ 0 < xs.length ∧ xs.length < 1000 ∧
  ∀ (H' : Hp) (v : V), SB a H H' → Src H' a → v ∈ xs → Q v H'
theorem use_one {K : PySem.W.Frag} {a p : Addr} {xs : List V} {H : Hp} {Q : VK} {E : XK} (h : Src H a) (s : SqL K H p xs) (n : p ≠ a) (h1 : 0 < xs.length) (h2 : xs.length < 1000) (q : ∀ (H' : Hp) (v : V), SB a H H' → Src H' a → v ∈ xs → Q v H') :
    spOne K [.ref a, .ref p] H Q E := ⟨a, p, xs, rfl, h, s, n, h1, h2, q⟩
theorem SB.seqL {K : PySem.W.Frag} {a p : Addr} {H H' : Hp} {xs : List V} (s : SB a H H') (n : p ≠ a) (h : SqL K H p xs) : SqL K H' p xs := by
  rcases h with (h | ⟨o, h⟩) | h
  · exact .inl (.inl (s _ _ n h))
  · exact .inl (.inr ⟨o, s _ _ n h⟩)
  · exact .inr h
theorem at_in {xs : List V} {i : Int} (h0 : 0 ≤ i) (h1 : i < (xs.length : Int)) : ∃ v, atI xs i = some v ∧ v ∈ xs := by
  have hk : i.toNat < xs.length := by omega
  have e : i = ((i.toNat : Nat) : Int) := by omega
  have q : atI xs ((i.toNat : Nat) : Int) = some xs[i.toNat] := atI_nat (List.getElem?_eq_getElem hk)
  rw [← e] at q
  exact ⟨xs[i.toNat], q, List.getElem_mem hk⟩
theorem Same.upd_new {H H' : Hp} {D : Addr} {o : HO} (s : Same H H') (hD : H D = none) : Same H (upd H' D o) := fun b u h => by
  rw [upd_ne (ne_of_none h hD)]; exact s b u h
theorem at_ints {ns : List Int} {i : Int} (h0 : 0 ≤ i) (h1 : i < (ns.length : Int)) : ∃ n : Int, atI (ns.map V.int) i = some (.int n) := by
  obtain ⟨v, e, m⟩ := at_in (xs := ns.map V.int) h0 (by rw [List.length_map]; exact h1)
  obtain ⟨n, _, rfl⟩ := List.mem_map.mp m
  exact ⟨n, e⟩
theorem ll {n : Nat} (h : n ≤ 1000000) : n ≤ sizeLine := Nat.le_trans h (by decide)
theorem lk {n : Nat} (h : Nat.ble n 1000000 = true) : n ≤ sizeLine := ll (Nat.le_of_ble_eq_true h)
theorem ls {n : Nat} (h : n ≤ 1000000) : n < sizeLine := Nat.lt_of_le_of_lt h (by decide)
theorem cm {p : Bool} : -(2 ^ 64) < (if p then (1 : Int) else 0) ∧ (if p then (1 : Int) else 0) < 2 ^ 64 := by cases p <;> decide
theorem isE {ns : List Int} (h : (!(ns.map V.int).isEmpty) = true) : 0 < ns.length := by
  cases ns with
  | nil => cases h
  | cons a r => exact Nat.succ_pos _
end Mine

/-! ### M0 -/
namespace Mine
open PySem PySem.Spec L2
abbrev Letters : Str := "abcdefghijklmnopqrstuvwxyz"
/-! ## what the program tells of data -/
def isNum : PyData → Bool
  | .int _ => true
  | _ => false
def isBtw (d : PyData) (lo hi : Int) : Bool := match d with
  | .int i => decide (lo ≤ i) && decide (i ≤ hi)
  | _ => false
def lowAll (l : List Nat) : Bool := l.all fun c => decide (c ∈ Letters.cps.toList)
def isWord : PyData → Bool
  | .str z => decide ((1 : Int) ≤ z.length) && decide ((z.length : Int) ≤ 8) && lowAll z.cps.toList
  | _ => false
def rowNums (ds : List PyData) : Bool := ds.all fun d => isBtw d 0 1000002
def tellsRow (ds : List PyData) : Bool := decide ((1 : Int) ≤ ds.length) && decide ((ds.length : Int) ≤ 64) && rowNums ds
def tellsInput : List PyData → Bool
  | [a, b] => isWord a && isBtw b 1 64
  | _ => false
def tellsStretch : List PyData → Bool
  | [a, .int j] => isBtw (.int j) 0 64 && isBtw a 0 (j - 1)
  | _ => false
def tellsTimes : List PyData → Bool
  | [a] => isBtw a 1 16
  | _ => false
def tellsRoom : List PyData → Bool
  | [a] => isBtw a 0 64
  | _ => false
theorem dats_get : ∀ {ds : List PyData} {i : Nat} {d : PyData}, dats ds → ds[i]? = some d → dat d
  | [], _, _, _, e => by simp at e
  | a :: r, 0, d, h, e => by
    have q : a = d := by simpa using e
    rw [← q]; exact h.1
  | a :: r, i + 1, d, h, e => dats_get (ds := r) (i := i) h.2 (by simpa using e)
theorem dats_append : ∀ {a b : List PyData}, dats a → dats b → dats (a ++ b)
  | [], _, _, h => h
  | x :: r, b, h, k => ⟨h.1, dats_append h.2 k⟩
theorem dats_reverse : ∀ {a : List PyData}, dats a → dats a.reverse
  | [], _ => trivial
  | x :: r, h => by rw [List.reverse_cons]; exact dats_append (dats_reverse h.2) ⟨h.1, trivial⟩
theorem dats_dropLast : ∀ {a : List PyData}, dats a → dats a.dropLast
  | [], _ => trivial
  | [x], _ => trivial
  | x :: y :: r, h => ⟨h.1, dats_dropLast h.2⟩
theorem dats_mem : ∀ {ds : List PyData} {d : PyData}, dats ds → d ∈ ds → dat d
  | a :: r, d, h, m => by
    rcases List.mem_cons.mp m with rfl | m
    · exact h.1
    · exact dats_mem h.2 m
theorem app_list (x y : Str) : (x ++ y).cps.toList = x.cps.toList ++ y.cps.toList := by
  show (x.cps ++ y.cps).toList = _
  simp
theorem len_list (x : Str) : x.length = x.cps.toList.length := by
  show x.cps.size = _
  simp
/-- two numbers that end the range are tuples of two by turns -/
theorem all_map {α : Type} (f : α → Bool) (l : List α) : (l.map f).all id = l.all f := by
  induction l with
  | nil => rfl
  | cons a r ih => rw [List.map_cons, List.all_cons, List.all_cons, ih] <;> rfl
end Mine

/-! ### M1 -/
namespace Mine
open PySem PySem.Spec L2
/-- the ops: how few parts, how many -/
def op0 : List Str := ["row", "in"]
def op1 : List Str := ["rev", "sort", "sum", "top", "part", "rep", "hold"]
def op2 : List Str := ["add", "sub", "mul", "dot", "outer", "blend"]
def arity (z : Str) : Option (Int × Int) := if z ∈ op0 then some (0, 0) else if z ∈ op1 then some (1, 1) else if z ∈ op2 then some (2, 2) else if z = "cat" then some (1, 4) else none
def asks (z : Str) : Option (List PyData → Bool) := if z = "row" then some tellsRow else if z = "in" then some tellsInput else if z = "part" then some tellsStretch else if z = "rep" then some tellsTimes else if z = "hold" then some tellsRoom else none
def toldFits (z : Str) (ds : List PyData) : Bool := match arity z with
  | none => false
  | some _ => match asks z with
    | none => decide ((ds.length : Int) = 0)
    | some f => f ds
def partsFit (z : Str) (n : Int) : Bool := match arity z with
  | none => false
  | some (lo, hi) => decide (lo ≤ n) && decide (n ≤ hi)
theorem fits_arity {z : Str} {ds : List PyData} (h : toldFits z ds = true) : ∃ lo hi, arity z = some (lo, hi) := by
  unfold toldFits at h
  cases e : arity z with
  | none => rw [e] at h; cases h
  | some p => exact ⟨p.1, p.2, rfl⟩
def isTri : PyData → Bool
  | .tuple [.str _, .tuple _, .tuple _] => true
  | _ => false
inductive Flt | many | prog | op | parts
  deriving DecidableEq
def fval : Flt → Int → Int
  | .many, _ => 41
  | _, n => n
/-- the fault of a joint -/
def jf (d : PyData) (n : Int) : Option Flt := if 40 ≤ n then some .many else match d with
  | .tuple [.str op, .tuple told, .tuple parts] => if toldFits op told = true then (if partsFit op parts.length = true then none else some .parts) else some .op
  | _ => some .prog
def partsOf : PyData → List PyData
  | .tuple [_, _, .tuple parts] => parts
  | _ => []
/-- the walk by numbers -/
def walk : Nat → List PyData → Int → Option (Flt × Int)
  | 0, _, _ => none
  | _ + 1, [], _ => none
  | k + 1, d :: r, n => match jf d n with
    | some f => some (f, fval f n)
    | none => walk k (partsOf d ++ r) (n + 1)
theorem jf_many {d : PyData} {n : Int} (h : jf d n = none) : n < 40 := by
  unfold jf at h
  by_cases c : 40 ≤ n
  · rw [if_pos c] at h; cases h
  · omega
theorem jf_tri {d : PyData} {n : Int} (h : jf d n = none) : ∃ op told parts, d = .tuple [.str op, .tuple told, .tuple parts] := by
  have c := jf_many h
  unfold jf at h
  rw [if_neg (by omega)] at h
  split at h
  · exact ⟨_, _, _, rfl⟩
  · cases h
theorem walk_none {k : Nat} {n : Int} : walk k [] n = none := by cases k <;> rfl
end Mine
namespace Mine
open PySem PySem.Spec L2
def isProg (d : PyData) : Bool := (walk 42 [d] 0).isNone
/-- the answer in words: ('good', d) or (word, number) -/
def fword : Flt → Str
  | .many => "many"
  | .prog => "program"
  | .op => "op"
  | .parts => "parts"
def due (d : PyData) : PyData := match walk 42 [d] 0 with
  | none => .tuple [.str "good", d]
  | some (f, n) => .tuple [.str (fword f), .int n]
end Mine
namespace Mine
open PySem PySem.Spec L2
def isIntD : PyData → Bool
  | .int _ => true
  | _ => false
theorem isInt_isT {d : PyData} (h : dat d) : isT "int" d = isIntD d := by
  cases d with
  | bool b => simp only [dat] at h
  | list b => simp only [dat] at h
  | dict b => simp only [dat] at h
  | none => rfl
  | int i => rfl
  | str i => rfl
  | tuple i => rfl
theorem btw_int {d : PyData} {lo hi : Int} (h : isBtw d lo hi = true) : isIntD d = true := by cases d <;> first | rfl | cases h
theorem fits_row {ds : List PyData} : toldFits "row" ds = tellsRow ds := rfl
theorem fits_in {ds : List PyData} : toldFits "in" ds = tellsInput ds := rfl
theorem fits_part {ds : List PyData} : toldFits "part" ds = tellsStretch ds := rfl
theorem fits_rep {ds : List PyData} : toldFits "rep" ds = tellsTimes ds := rfl
theorem fits_hold {ds : List PyData} : toldFits "hold" ds = tellsRoom ds := rfl
def ops11 : List Str := ["rev", "sort", "sum", "top", "add", "sub", "mul", "dot", "cat", "outer", "blend"]
theorem fits_other {z : Str} {ds : List PyData} (h1 : z ≠ "row") (h2 : z ≠ "in") (h3 : z ≠ "part") (h4 : z ≠ "rep") (h5 : z ≠ "hold") : toldFits z ds = (decide (z ∈ ops11) && ds.isEmpty) := by
  have ea : asks z = none := by unfold asks; rw [if_neg h1, if_neg h2, if_neg h3, if_neg h4, if_neg h5]
  have eb : (decide ((ds.length : Int) = 0)) = ds.isEmpty := by
    cases ds with
    | nil => rfl
    | cons a r =>
      show decide (((r.length + 1 : Nat) : Int) = 0) = false
      exact decide_eq_false (by omega)
  unfold toldFits
  by_cases hz : z ∈ ops11
  · have hs : ∃ p, arity z = some p := by
      have k : ∀ y ∈ ops11, (arity y).isSome = true := by decide +kernel
      exact Option.isSome_iff_exists.mp (k z hz)
    obtain ⟨p, ep⟩ := hs
    rw [ep, ea, decide_eq_true hz, Bool.true_and]
    exact eb
  · have hn : arity z = none := by
      unfold arity
      have k0 : ∀ y ∈ op0, y = "row" ∨ y = "in" := by decide +kernel
      have k1 : ∀ y ∈ op1, y ∈ ops11 ∨ y = "part" ∨ y = "rep" ∨ y = "hold" := by decide +kernel
      have k2 : ∀ y ∈ op2, y ∈ ops11 := by decide +kernel
      have k3 : ("cat" : Str) ∈ ops11 := by decide +kernel
      rw [if_neg (fun h => (k0 z h).elim h1 h2), if_neg (fun h => (k1 z h).elim hz fun h => h.elim h3 fun h => h.elim h4 h5), if_neg (fun h => hz (k2 z h)), if_neg (fun (h : z = "cat") => hz (by rw [h]; exact k3))]
    rw [hn, decide_eq_false hz, Bool.false_and]
/-- told things of an op but "in" are numbers -/
theorem fits_ints {z : Str} {ds : List PyData} (h2 : z ≠ "in") (h : toldFits z ds = true) : ds.all isIntD = true := by
  by_cases c1 : z = "row"
  · subst c1
    rw [fits_row] at h
    unfold tellsRow rowNums at h
    have h' := (Bool.and_eq_true_iff.mp h).2
    rw [List.all_eq_true] at h' ⊢
    exact fun d hd => btw_int (h' d hd)
  by_cases c3 : z = "part"
  · subst c3
    rw [fits_part] at h
    unfold tellsStretch at h
    split at h
    · rename_i a j
      have h' := Bool.and_eq_true_iff.mp h
      have h3 : isIntD (.int j) = true := rfl
      simp only [List.all_cons, btw_int h'.2, h3, List.all_nil, Bool.and_self]
    · cases h
  by_cases c4 : z = "rep"
  · subst c4
    rw [fits_rep] at h
    unfold tellsTimes at h
    split at h
    · simp only [List.all_cons, btw_int h, List.all_nil, Bool.and_self]
    · cases h
  by_cases c5 : z = "hold"
  · subst c5
    rw [fits_hold] at h
    unfold tellsRoom at h
    split at h
    · simp only [List.all_cons, btw_int h, List.all_nil, Bool.and_self]
    · cases h
  rw [fits_other c1 h2 c3 c4 c5] at h
  have h' := (Bool.and_eq_true_iff.mp h).2
  cases ds with
  | nil => rfl
  | cons a r => cases h'
theorem eqv_nil : ∀ xs : List PyData, PyData.eqv (.list xs) (.list []) = xs.isEmpty
  | [] => by simp [PyData.eqv, PyData.eqvAll]
  | a :: r => by simp [PyData.eqv, PyData.eqvAll]
theorem filter_empty {p : PyData → Bool} : ∀ ds : List PyData, (ds.filter fun d => !p d).isEmpty = ds.all p
  | [] => rfl
  | a :: r => by
    rw [List.filter_cons, List.all_cons]
    cases h : p a with
    | true => simp only [Bool.not_true, Bool.true_and, Bool.false_eq_true, if_false]; exact filter_empty r
    | false => simp only [Bool.not_false, if_true, Bool.false_and]; rfl
theorem dats_filter {p : PyData → Bool} : ∀ {ds : List PyData}, dats ds → dats (ds.filter p)
  | [], _ => trivial
  | a :: r, h => by
    rw [List.filter_cons]
    split
    · exact ⟨h.1, dats_filter h.2⟩
    · exact dats_filter h.2
theorem Rps.filter_snoc {K : PySem.W.Frag} {H : Hp} {ws : List V} {v : V} {d : PyData} {ds : List PyData} {i : Nat} {p : PyData → Bool} (hw : Rps K H ws ((ds.take i).filter p)) (e : ds[i]? = some d) (r : Rp K H v d) (hp : p d = true) : Rps K H (ws ++ [v]) ((ds.take (i + 1)).filter p) := by
  rw [List.take_add_one, e, List.filter_append]
  refine hw.append ?_
  rw [show List.filter p (some d).toList = [d] from by rw [Option.toList_some, List.filter_cons, if_pos hp]; rfl]
  exact .one r
theorem Rps.filter_skip {K : PySem.W.Frag} {H : Hp} {ws : List V} {d : PyData} {ds : List PyData} {i : Nat} {p : PyData → Bool} (hw : Rps K H ws ((ds.take i).filter p)) (e : ds[i]? = some d) (hp : p d = false) : Rps K H ws ((ds.take (i + 1)).filter p) := by
  rw [List.take_add_one, e, List.filter_append]
  rw [show List.filter p (some d).toList = [] from by rw [Option.toList_some, List.filter_cons, hp]; rfl, List.append_nil]
  exact hw
end Mine
namespace Mine
open PySem PySem.Spec L2
theorem Rps.intsOf {K : PySem.W.Frag} {H : Hp} : ∀ {xs : List V} {ds : List PyData}, Rps K H xs ds → ds.all isIntD = true → ∃ ns : List Int, ds = ns.map PyData.int ∧ xs = ns.map V.int
  | _, _, .nil, _ => ⟨[], rfl, rfl⟩
  | _, _, .cons (v := v) (d := d) h t, e => by
    rw [List.all_cons, Bool.and_eq_true] at e
    obtain ⟨ns, e1, e2⟩ := Rps.intsOf t e.2
    cases h with
    | int i => exact ⟨i :: ns, by rw [e1]; rfl, by rw [e2]; rfl⟩
    | non => cases e.1
    | bl _ => cases e.1
    | str _ => cases e.1
    | tup _ _ => cases e.1
def inRow (d : PyData) : Bool := isBtw d 0 1000002
end Mine
namespace Mine
open PySem PySem.Spec L2
theorem inV_str (z : Str) : ∀ l : List Str, inV (.str z) (l.map V.str) = decide (z ∈ l) := by
  intro l
  unfold inV
  rw [List.any_map]
  induction l with
  | nil => rfl
  | cons a r ih =>
    rw [List.any_cons, ih]
    have e3 : eqV (V.str a) (V.str z) = decide (z = a) := by
      show (a == z) = _
      by_cases c : z = a
      · subst c; simp
      · rw [decide_eq_false c]
        exact beq_eq_false_iff_ne.mpr (fun h => c h.symm)
    show (eqV (V.str a) (V.str z) || decide (z ∈ r)) = _
    rw [e3]
    simp [List.mem_cons]
theorem flat_strs : ∀ l : List Str, (l.map V.str).all flatV = true
  | [] => rfl
  | _ :: r => by rw [List.map_cons, List.all_cons, flat_strs r] <;> rfl
theorem jf_prog {d : PyData} {n : Int} (h : n < 40) (c : ¬ ∃ op told parts, d = .tuple [.str op, .tuple told, .tuple parts]) : jf d n = some .prog := by
  unfold jf
  rw [if_neg (by omega)]
  split
  · exact absurd ⟨_, _, _, rfl⟩ c
  · rfl
theorem walk_step {k : Nat} {d : PyData} {r : List PyData} {n : Int} : walk (k + 1) (d :: r) n = match jf d n with
    | some f => some (f, fval f n)
    | none => walk k (partsOf d ++ r) (n + 1) := rfl
end Mine
namespace Mine
open PySem PySem.Spec L2
theorem isT_str {d : PyData} (h : isT "str" d = true) : ∃ z, d = .str z := by
  cases d with
  | str z => exact ⟨z, rfl⟩
  | none => cases h
  | bool _ => exact absurd h (by simp only [isT]; decide)
  | int _ => exact absurd h (by simp only [isT]; decide)
  | tuple _ => exact absurd h (by simp only [isT]; decide)
  | list _ => cases h
  | dict _ => cases h
theorem isT_tuple {d : PyData} (h : isT "tuple" d = true) : ∃ z, d = .tuple z := by
  cases d with
  | tuple z => exact ⟨z, rfl⟩
  | none => exact absurd h (by simp only [isT]; decide)
  | bool _ => exact absurd h (by simp only [isT]; decide)
  | int _ => exact absurd h (by simp only [isT]; decide)
  | str _ => exact absurd h (by simp only [isT]; decide)
  | list _ => cases h
  | dict _ => cases h
end Mine

/-! ### M2 -/
namespace Mine
open PySem PySem.Spec L2
theorem okS_of {z : Str} (h1 : z.length ≤ 1000) (h2 : PyData.strOk z = true) : okS z := ⟨h1, by simp only [PyData.canLay0]; exact h2⟩
/-! ## programs as trees -/
inductive Jn where
  | mk (op : Str) (told : List PyData) (parts : List Jn)
mutual
def Jn.py : Jn → PyData
  | .mk op told parts => .tuple [.str op, .tuple told, .tuple (Jn.pys parts)]
def Jn.pys : List Jn → List PyData
  | [] => []
  | j :: r => j.py :: Jn.pys r
end
mutual
def Jn.cnt : Jn → Nat
  | .mk _ _ parts => 1 + Jn.cnts parts
def Jn.cnts : List Jn → Nat
  | [] => 0
  | j :: r => j.cnt + Jn.cnts r
end
def flatD : PyData → Prop
  | .int _ => True
  | .str z => okS z
  | _ => False
mutual
def Jn.ok : Jn → Prop
  | .mk op told parts => okS op ∧ told.length ≤ 64 ∧ (∀ d ∈ told, flatD d) ∧ parts.length ≤ 4 ∧ Jn.oks parts
def Jn.oks : List Jn → Prop
  | [] => True
  | j :: r => j.ok ∧ Jn.oks r
end
mutual
def Jn.all : Jn → List Jn
  | .mk op told parts => .mk op told parts :: Jn.alls parts
def Jn.alls : List Jn → List Jn
  | [] => []
  | j :: r => j.all ++ Jn.alls r
end
theorem pys_length : ∀ l : List Jn, (Jn.pys l).length = l.length
  | [] => rfl
  | j :: r => by simp only [Jn.pys, List.length_cons, pys_length r]
theorem cnts_append : ∀ a b : List Jn, Jn.cnts (a ++ b) = Jn.cnts a + Jn.cnts b
  | [], b => by simp [Jn.cnts]
  | j :: r, b => by simp only [List.cons_append, Jn.cnts, cnts_append r b]; omega
theorem oks_append : ∀ a b : List Jn, Jn.oks a → Jn.oks b → Jn.oks (a ++ b)
  | [], b, _, h => h
  | j :: r, b, h, k => by
    simp only [List.cons_append, Jn.oks] at h ⊢
    exact ⟨h.1, oks_append r b h.2 k⟩
theorem pys_append : ∀ a b : List Jn, Jn.pys (a ++ b) = Jn.pys a ++ Jn.pys b
  | [], b => by simp [Jn.pys]
  | j :: r, b => by simp only [List.cons_append, Jn.pys, pys_append r b]
theorem flat_dat {d : PyData} (h : flatD d) : dat d := by
  cases d with
  | int i => simp only [dat]
  | str z => simpa only [dat, flatD] using h
  | none => simp only [flatD] at h
  | bool _ => simp only [flatD] at h
  | list _ => simp only [flatD] at h
  | tuple _ => simp only [flatD] at h
  | dict _ => simp only [flatD] at h
theorem flat_dats : ∀ {l : List PyData}, (∀ d ∈ l, flatD d) → dats l
  | [], _ => by simp only [dats]
  | d :: r, h => by
    simp only [dats]
    exact ⟨flat_dat (h d List.mem_cons_self), flat_dats fun x hx => h x (List.mem_cons_of_mem _ hx)⟩
theorem flat_depth : ∀ {l : List PyData}, (∀ d ∈ l, flatD d) → PyData.depthAll l = 0
  | [], _ => by simp only [PyData.depthAll]
  | d :: r, h => by
    have h1 := h d List.mem_cons_self
    have hr := flat_depth fun x hx => h x (List.mem_cons_of_mem _ hx)
    simp only [PyData.depthAll, hr]
    cases d with
    | int i => simp [PyData.depth]
    | str z => simp [PyData.depth]
    | none => simp only [flatD] at h1
    | bool _ => simp only [flatD] at h1
    | list _ => simp only [flatD] at h1
    | tuple _ => simp only [flatD] at h1
    | dict _ => simp only [flatD] at h1
mutual
theorem Jn.dat : ∀ j : Jn, j.ok → Mine.dat j.py
  | .mk op told parts, h => by
    simp only [Jn.ok] at h
    obtain ⟨h1, h2, h3, h4, h5⟩ := h
    simp only [Jn.py, Mine.dat, dats, List.length_cons, List.length_nil]
    refine ⟨by omega, h1, ⟨by omega, flat_dats h3⟩, ⟨?_, Jn.dats parts h5⟩, trivial⟩
    rw [pys_length]; omega
theorem Jn.dats : ∀ l : List Jn, Jn.oks l → Mine.dats (Jn.pys l)
  | [], _ => by simp only [Jn.pys, Mine.dats]
  | j :: r, h => by
    simp only [Jn.oks] at h
    simp only [Jn.pys, Mine.dats]
    exact ⟨Jn.dat j h.1, Jn.dats r h.2⟩
end
mutual
theorem Jn.deep : ∀ j : Jn, j.ok → j.py.depth ≤ 2 * j.cnt
  | .mk op told parts, h => by
    simp only [Jn.ok] at h
    obtain ⟨h1, h2, h3, h4, h5⟩ := h
    have hp := Jn.deeps parts h5
    simp only [Jn.py, PyData.depth, PyData.depthAll, flat_depth h3, Jn.cnt]
    omega
theorem Jn.deeps : ∀ l : List Jn, Jn.oks l → PyData.depthAll (Jn.pys l) ≤ 2 * Jn.cnts l
  | [], _ => by simp [Jn.pys, PyData.depthAll]
  | j :: r, h => by
    simp only [Jn.oks] at h
    have a := Jn.deep j h.1
    have b := Jn.deeps r h.2
    simp only [Jn.pys, PyData.depthAll, Jn.cnts]
    omega
end
theorem cnt_pos (j : Jn) : 1 ≤ j.cnt := by
  cases j
  simp only [Jn.cnt]
  omega
/-! ## a joint laid -/
theorem mkJ {K : PySem.W.Frag} {H : Hp} {op : Str} {t q p : Addr} {tv pv : List V} {td : List PyData} {parts : List Jn} (h1 : SqT K H t tv) (h2 : Rps K H tv td) (h3 : SqT K H q pv) (h4 : Rps K H pv (Jn.pys parts)) (hp : H p = none) :
    Rp K (upd H p (.tup [.str op, .ref t, .ref q])) (.ref p) (Jn.mk op td parts).py := by
  simp only [Jn.py]
  exact .tup (SqT.of upd_same) (.cons (.str op) (.cons (.tup ((Ext.new hp) _ _ h1) (h2.mono (Ext.new hp) _ _)) (.cons (.tup ((Ext.new hp) _ _ h3) (h4.mono (Ext.new hp) _ _)) .nil)))
theorem SB.upd_new {a : Addr} {H H' : Hp} {D : Addr} {o : HO} (s : SB a H H') (hD : H D = none) : SB a H (L2.upd H' D o) := fun b u n h => by
  rw [upd_ne (ne_of_none h hD)]; exact s b u n h
theorem mod_le {k n : Int} (hk : 1 ≤ k) (hn : 1 ≤ n) (h : k % n = 0) : n ≤ k ∧ 1 ≤ k / n ∧ k / n ≤ k := by
  have h1 : n ≤ k := by
    by_cases c : n ≤ k
    · exact c
    · have := Int.emod_eq_of_lt (show 0 ≤ k by omega) (show k < n by omega)
      omega
  have h2 : 1 ≤ k / n := by
    rw [Int.le_ediv_iff_mul_le (by omega)]
    omega
  have h3 : k / n ≤ k := Int.ediv_le_self _ (by omega)
  exact ⟨h1, h2, h3⟩
end Mine

/-! ### M3 -/
namespace Mine
open PySem PySem.Spec L2
/-- v is plain data of a depth of at most n -/
def Dt (K : PySem.W.Frag) (n : Nat) (H : Hp) (v : V) : Prop := ∃ d, Rp K H v d ∧ dat d ∧ d.depth ≤ n
section
variable {K : PySem.W.Frag} {n m : Nat} {H H' : Hp} {v : V} {xs ys : List V} {p a : Addr} {d : PyData}
theorem Dt.mono (h : Dt K n H v) (e : Ext K H H') : Dt K n H' v := by
  obtain ⟨d, r, x, y⟩ := h
  exact ⟨d, r.mono e _ _, x, y⟩
theorem Dt.le (h : Dt K n H v) (e : n ≤ m) : Dt K m H v := by
  obtain ⟨d, r, x, y⟩ := h
  exact ⟨d, r, x, Nat.le_trans y e⟩
theorem Dt.int (i : Int) : Dt K n H (.int i) := ⟨.int i, .int i, by simp only [dat], by simp [PyData.depth]⟩
theorem Dt.non : Dt K n H .non := ⟨.none, .non, by simp only [dat], by simp [PyData.depth]⟩
theorem Dt.str {z : Str} (h : okS z) : Dt K n H (.str z) := ⟨.str z, .str z, by simpa only [dat] using h, by simp [PyData.depth]⟩
theorem Dt.all (h : ∀ x ∈ xs, Dt K n H x) : ∃ ds, Rps K H xs ds ∧ dats ds ∧ PyData.depthAll ds ≤ n ∧ ds.length = xs.length := by
  induction xs with
  | nil => exact ⟨[], .nil, trivial, by simp [PyData.depthAll], rfl⟩
  | cons x r ih =>
    obtain ⟨ds, a, b, c, e⟩ := ih (fun y hy => h y (List.mem_cons_of_mem _ hy))
    obtain ⟨d, a1, b1, c1⟩ := h x List.mem_cons_self
    exact ⟨d :: ds, .cons a1 a, ⟨b1, b⟩, by simp only [PyData.depthAll]; omega, by simp [e]⟩
theorem Dt.tup (h : ∀ x ∈ xs, Dt K n H x) (l : xs.length ≤ 1000) (s : SqT K H p xs) : Dt K (n + 1) H (.ref p) := by
  obtain ⟨ds, a, b, c, e⟩ := Dt.all h
  exact ⟨.tuple ds, .tup s a, by simp only [dat]; exact ⟨by omega, b⟩, by simp only [PyData.depth]; omega⟩
/-- the parts of a tuple -/
theorem Dt.parts {K : PySem.W.Frag} {n : Nat} {H : Hp} : ∀ {xs : List V} {ds : List PyData}, Rps K H xs ds → dats ds → PyData.depthAll ds ≤ n → ∀ x ∈ xs, Dt K n H x
  | _, _, .nil, _, _ => fun _ z => nomatch z
  | _, _, .cons (v := v) (d := d) (ds := ds) h1 h2, h, l => by
    simp only [PyData.depthAll] at l
    intro x hx
    rcases List.mem_cons.mp hx with rfl | hx
    · exact ⟨d, h1, h.1, by omega⟩
    · exact Dt.parts h2 h.2 (by omega) x hx
theorem Dt.jn {j : Jn} (r : Rp K H v j.py) (h : j.ok) (l : 2 * j.cnt ≤ n) : Dt K n H v := ⟨_, r, Jn.dat j h, Nat.le_trans (Jn.deep j h) l⟩
/-! ## what has been laid: a stack of values -/
def atomB : V → Bool
  | .int _ => true
  | .non => true
  | .str z => decide (z.length ≤ 1000) && PyData.strOk z
  | _ => false
theorem atom_dt (h : atomB v = true) : Dt K n H v := by
  cases v with
  | int i => exact .int i
  | non => exact .non
  | str z =>
    have q : (decide (z.length ≤ 1000) && PyData.strOk z) = true := h
    have q' := Bool.and_eq_true_iff.mp q
    exact .str (okS_of (of_decide_eq_true q'.1) q'.2)
  | _ => cases h
structure Lay (K : PySem.W.Frag) (a : Addr) (H0 : Hp) (n : Nat) (L : List V) (H : Hp) : Prop where
  sb : SB a H0 H
  src : Src H a
  dt : ∀ x ∈ L, Dt K n H x
theorem Lay.start (h : Src H a) : Lay K a H 0 [] H := ⟨SB.refl, h, fun _ z => nomatch z⟩
theorem Lay.tup {H0 : Hp} {L : List V} (h : Lay K a H0 n L H) (hp : H p = none) (l : xs.length ≤ 1000) (hx : ∀ x ∈ xs, x ∈ L ∨ atomB x = true) : Lay K a H0 (n + 1) (.ref p :: L) (upd H p (.tup xs)) := by
  have e : Ext K H (upd H p (.tup xs)) := Ext.new hp
  refine ⟨h.sb.new hp, h.src.new hp, fun x hm => ?_⟩
  rcases List.mem_cons.mp hm with rfl | hm
  · refine Dt.tup (xs := xs) (fun y hy => ?_) l (SqT.of upd_same)
    rcases hx y hy with q | q
    · exact (h.dt y q).mono e
    · exact atom_dt q
  · exact ((h.dt x hm).mono e).le (Nat.le_succ _)
theorem Lay.ext {H0 : Hp} {L : List V} (h : Lay K a H0 n L H) (s : Src H0 a) : Ext K H0 H := s.ext h.sb
theorem Lay.lst {H0 : Hp} {L : List V} (h : Lay K a H0 n L H) (hp : H p = none) : Lay K a H0 n L (upd H p (.lst xs)) := by
  have e : Ext K H (upd H p (.lst xs)) := Ext.new hp
  exact ⟨h.sb.new hp, h.src.new hp, fun x hm => (h.dt x hm).mono e⟩
theorem Lay.sbx {H0 : Hp} {L : List V} (h : Lay K a H0 n L H) (s : SB a H H') (hs : Src H' a) : Lay K a H0 n L H' := ⟨h.sb.trans s, hs, fun x hm => (h.dt x hm).mono (h.src.ext s)⟩
theorem Lay.push {H0 : Hp} {L : List V} (h : Lay K a H0 n L H) (d : Dt K m H v) (l : n ≤ m) : Lay K a H0 m (v :: L) H := ⟨h.sb, h.src, fun x hm => by
  rcases List.mem_cons.mp hm with rfl | hm
  · exact d
  · exact (h.dt x hm).le l⟩
theorem Lay.any {H0 : Hp} {L : List V} (h : Lay K a H0 n L H) (hx : ∀ x ∈ xs, x ∈ L ∨ atomB x = true) : ∀ x ∈ xs, Dt K n H x := fun y hy => by
  rcases hx y hy with q | q
  · exact h.dt y q
  · exact atom_dt q
theorem al0 {L : List V} : ∀ x ∈ ([] : List V), x ∈ L ∨ atomB x = true := fun _ z => nomatch z
theorem al1 {L : List V} {r : List V} (h : v ∈ L ∨ atomB v = true) (k : ∀ x ∈ r, x ∈ L ∨ atomB x = true) : ∀ x ∈ v :: r, x ∈ L ∨ atomB x = true := fun x hm => by
  rcases List.mem_cons.mp hm with rfl | hm
  · exact h
  · exact k x hm
/-! ## readings: dicts, tuples -/
variable {Q : VK} {σ : St}
theorem rd_dnew (h : ∀ p, H p = none → Q (.ref p) (upd H p (.dK []))) : tDNewK σ H Q := h
theorem rd_din {ty td : TE} (h : ty σ H fun y H1 => td σ H1 fun x H2 => ∃ a o, x = .ref a ∧ DGet H2 a y o ∧ Q (.bl o.isSome) H2) : tDIn ty td σ H Q := h
theorem u_din {i : Int} {kvs : List (Key × V)} {R : Option V → Prop} (e : H a = some (.dK kvs)) (h : R (valV kvs (Sum.inl i))) : ∃ a' o, V.ref a = .ref a' ∧ DGet H a' (.int i) o ∧ R o := ⟨a, _, rfl, DGet.k (k := Sum.inl i) e, h⟩
theorem rd_dget {ty td : TE} (h : td σ H fun x H1 => ty σ H1 fun y H2 => ∃ a v, x = .ref a ∧ DGet H2 a y (some v) ∧ Q v H2) : tDGet td ty σ H Q := h
theorem u_dget {i : Int} {kvs : List (Key × V)} {R : V → Prop} (e : H a = some (.dK kvs)) (ev : valV kvs (Sum.inl i) = some v) (h : R v) : ∃ a' v', V.ref a = .ref a' ∧ DGet H a' (.int i) (some v') ∧ R v' := ⟨a, v, rfl, by rw [← ev]; exact DGet.k (k := Sum.inl i) e, h⟩
theorem rd_dput {ty td tv : TE} {n bk ct : St → Hp → Prop} {rt : VK} (h : tv σ H fun v H1 => td σ H1 fun x H2 => ty σ H2 fun y H3 => ∃ a H4, x = .ref a ∧ DPut H3 a y v H4 ∧ n σ H4) : sDPut td ty tv ⟨n, rt, bk, ct⟩ σ H := h
theorem u_dput {i : Int} {kvs : List (Key × V)} {R : Hp → Prop} (e : H a = some (.dK kvs)) (l : kvs.length < sizeLine) (h : R (upd H a (.dK (putK kvs (Sum.inl i) v)))) : ∃ a' H4, V.ref a = .ref a' ∧ DPut H a' (.int i) v H4 ∧ R H4 := ⟨a, _, rfl, DPut.k (k := Sum.inl i) e l, h⟩
theorem rd_disp1 {tk tv : TE} (h : ∀ p, H p = none → tk σ (upd H p (.dK [])) fun x H1 => tv σ H1 fun y H2 => H2 p = some (.dK []) ∧ ∃ kvs : List (Key × V), [(x, y)] = kvs.map (fun kv => (kV kv.1, kv.2)) ∧ kvs.length ≤ 15 ∧ Q (.ref p) (upd H2 p (.dK (mergeK [] kvs)))) : tDisp [(tk, tv)] σ H Q := h
theorem merge1 {k : Key} {y : V} : mergeK [] [(k, y)] = [(k, y)] := rfl
theorem u_disp1 {i : Int} {y : V} {R : List (Key × V) → Prop} (e : H p = some (.dK [])) (h : R [(Sum.inl i, y)]) : H p = some (.dK []) ∧ ∃ kvs : List (Key × V), [(V.int i, y)] = kvs.map (fun kv => (kV kv.1, kv.2)) ∧ kvs.length ≤ 15 ∧ R kvs := ⟨e, [(Sum.inl i, y)], rfl, by simp, h⟩
theorem rd_sl {r : V → Option Int → Option Int → Hp → VK → Prop} {te : TE} {tl th : TO} (h : te σ H fun x H1 => tl σ H1 fun l H2 => th σ H2 fun u H3 => r x l u H3 Q) : tSl r te tl th σ H Q := h
theorem rd_part {te : TE} {R : Option Int → Hp → Prop} (h : te σ H fun x H1 => ∃ i, x = .int i ∧ R (some i) H1) : tPart te σ H R := h
theorem rd_partI {i : Int} {R : Int → Prop} (h : R i) : ∃ i', V.int i = .int i' ∧ R i' := ⟨i, rfl, h⟩
theorem rd_nopart {R : Option Int → Hp → Prop} (h : R none H) : tNoPart σ H R := h
theorem u_slT {lo hi : Option Int} (ha : SqT K H a xs) (h0 : Q (.ref a) H) (h : ∀ p, H p = none → Q (.ref p) (upd H p (.tup (cutV xs lo hi)))) : rSlU K (.ref a) lo hi H Q := .inr ⟨a, xs, rfl, ha, fun _ => h0, fun _ => h⟩
theorem cut_mem {lo hi : Option Int} {x : V} (h : x ∈ cutV xs lo hi) : x ∈ xs := List.mem_of_mem_drop (List.mem_of_mem_take h)
theorem u_catT {b : Addr} (ha : SqT K H a xs) (hb : SqT K H b ys) (l : xs.length + ys.length ≤ sizeLine) (n1 : ys ≠ []) (h0 : xs = [] → Q (.ref b) H) (h : xs ≠ [] → ∀ p, H p = none → Q (.ref p) (upd H p (.tup (xs ++ ys)))) : rAddU K (.ref a) (.ref b) H Q :=
  .inr (.inr (.inr ⟨a, b, xs, ys, rfl, rfl, ha, hb, l, h0, fun _ z => absurd z n1, fun x _ => h x⟩))
theorem u_repT {i : Int} (ha : SqT K H a xs) (n0 : xs ≠ []) (h1 : 2 ≤ i) (h2 : i ≤ 1000) (l : xs.length ≤ 1000) (h : ∀ p, H p = none → Q (.ref p) (upd H p (.tup (List.replicate i.toNat xs).flatten))) : rMulU K (.ref a) (.int i) H Q :=
  .inr (.inr ⟨a, i, xs, rfl, rfl, ha, n0, h1, h2, l, h⟩)
theorem Lay.same {H0 : Hp} {L : List V} (h : Lay K a H0 n L H) (s : Same H H') : Lay K a H0 n L H' := h.sbx (SB.of_same s) (h.src.same s)
theorem Lay.le {H0 : Hp} {L : List V} (h : Lay K a H0 n L H) (e : n ≤ m) : Lay K a H0 m L H := ⟨h.sb, h.src, fun x hx => (h.dt x hx).le e⟩
theorem Lay.sub {H0 : Hp} {L M : List V} (h : Lay K a H0 n L H) (e : ∀ x ∈ M, x ∈ L) : Lay K a H0 n M H := ⟨h.sb, h.src, fun x hx => h.dt x (e x hx)⟩
theorem SB.fresh {b : Addr} (s : SB a H H') (n : b ≠ a) (h : H' b = none) : H b = none := by
  cases e : H b with
  | none => rfl
  | some o => rw [s b o n e] at h; cases h
theorem Lay.write {H0 : Hp} {L : List V} {D : Addr} {o u : HO} (h : Lay K a H0 n L H) (hD : H0 D = none) (nd : D ≠ a) (e : H D = some o) (hn : noTup o) : Lay K a H0 n L (upd H D u) := ⟨h.sb.upd_new hD, h.src.set nd, fun x hx => (h.dt x hx).mono (Ext.set e hn)⟩
theorem u_slD {lo hi : Option Int} (ha : SqT K H a xs) (hd : ∀ x ∈ xs, Dt K n H x) (hl : xs.length ≤ 1000) (h : ∀ q H', Same H H' → Dt K (n + 1) H' (.ref q) → Q (.ref q) H') : rSlU K (.ref a) lo hi H Q :=
  u_slT ha (h a H (Same.refl H) (Dt.tup hd hl ha)) fun p hp => h p _ (same_new hp _) (Dt.tup (xs := cutV xs lo hi) (fun x hx => (hd x (cut_mem hx)).mono (Ext.new hp)) (Nat.le_trans (cutV_length xs lo hi) hl) (SqT.of upd_same))
theorem u_catD {b : Addr} (ha : SqT K H a xs) (hb : SqT K H b ys) (hd : ∀ x ∈ xs, Dt K n H x) (he : ∀ x ∈ ys, Dt K n H x) (hl : xs.length + ys.length ≤ 1000) (n1 : ys ≠ []) (h : ∀ q H', Same H H' → Dt K (n + 1) H' (.ref q) → Q (.ref q) H') : rAddU K (.ref a) (.ref b) H Q :=
  u_catT ha hb (ll (by omega)) n1 (fun _ => h b H (Same.refl H) (Dt.tup he (by omega) hb)) fun _ p hp => h p _ (same_new hp _) (Dt.tup (xs := xs ++ ys) (fun x hx => (by
    rcases List.mem_append.mp hx with h1 | h1
    · exact (hd x h1).mono (Ext.new hp)
    · exact (he x h1).mono (Ext.new hp))) (by rw [List.length_append]; exact hl) (SqT.of upd_same))
end
/-! ## a joint read -/
theorem Rp.jn {K : PySem.W.Frag} {H : Hp} {v : V} {op : Str} {td : List PyData} {parts : List Jn} (h : Rp K H v (Jn.mk op td parts).py) :
    ∃ (p t q : Addr) (tv pv : List V), v = .ref p ∧ SqT K H p [.str op, .ref t, .ref q] ∧ SqT K H t tv ∧ Rps K H tv td ∧ SqT K H q pv ∧ Rps K H pv (Jn.pys parts) := by
  simp only [Jn.py] at h
  cases h with
  | tup s r =>
    cases r with
    | cons r1 r =>
      cases r with
      | cons r2 r =>
        cases r with
        | cons r3 r =>
          cases r
          cases r1
          cases r2 with
          | tup s2 q2 =>
            cases r3 with
            | tup s3 q3 => exact ⟨_, _, _, _, _, rfl, s, s2, q2, s3, q3⟩
theorem pys_get : ∀ (l : List Jn) (i : Nat), (Jn.pys l)[i]? = (l[i]?).map Jn.py
  | [], i => by simp [Jn.pys]
  | j :: r, 0 => by simp [Jn.pys]
  | j :: r, i + 1 => by simp only [Jn.pys, List.getElem?_cons_succ]; exact pys_get r i
theorem oks_mem : ∀ {l : List Jn} {j : Jn}, Jn.oks l → j ∈ l → j.ok
  | a :: r, j, h, m => by
    simp only [Jn.oks] at h
    rcases List.mem_cons.mp m with rfl | m
    · exact h.1
    · exact oks_mem h.2 m
theorem cnts_mem : ∀ {l : List Jn} {j : Jn}, j ∈ l → j.cnt ≤ Jn.cnts l
  | a :: r, j, m => by
    simp only [Jn.cnts]
    rcases List.mem_cons.mp m with rfl | m
    · omega
    · have := cnts_mem m; omega
theorem Rps.part {K : PySem.W.Frag} {H : Hp} {pv : List V} {parts : List Jn} {i : Nat} {x : V} (h : Rps K H pv (Jn.pys parts)) (e : pv[i]? = some x) : ∃ j, parts[i]? = some j ∧ Rp K H x j.py := by
  obtain ⟨d, e1, r⟩ := h.getV e
  rw [pys_get] at e1
  cases e2 : parts[i]? with
  | none => rw [e2] at e1; cases e1
  | some j => rw [e2] at e1; cases e1; exact ⟨j, rfl, r⟩
theorem alls_append : ∀ a b : List Jn, Jn.alls (a ++ b) = Jn.alls a ++ Jn.alls b
  | [], b => by simp [Jn.alls]
  | j :: r, b => by simp only [List.cons_append, Jn.alls, alls_append r b, List.append_assoc]
mutual
theorem all_cnt : ∀ j : Jn, j.all.length = j.cnt
  | .mk op td parts => by simp only [Jn.all, Jn.cnt, List.length_cons, alls_cnt parts]; omega
theorem alls_cnt : ∀ l : List Jn, (Jn.alls l).length = Jn.cnts l
  | [] => by simp [Jn.alls, Jn.cnts]
  | j :: r => by simp only [Jn.alls, Jn.cnts, List.length_append, all_cnt j, alls_cnt r]
end
mutual
theorem all_ok : ∀ (j : Jn), j.ok → ∀ x ∈ j.all, x.ok ∧ x.cnt ≤ j.cnt
  | .mk op td parts, h => fun x hx => by
    simp only [Jn.all] at hx
    rcases List.mem_cons.mp hx with rfl | hx
    · exact ⟨h, Nat.le_refl _⟩
    · have h' := h
      simp only [Jn.ok] at h'
      have := alls_ok parts h'.2.2.2.2 x hx
      simp only [Jn.cnt]
      exact ⟨this.1, by omega⟩
theorem alls_ok : ∀ (l : List Jn), Jn.oks l → ∀ x ∈ Jn.alls l, x.ok ∧ x.cnt ≤ Jn.cnts l
  | [], _ => fun x hx => by simp [Jn.alls] at hx
  | j :: r, h => fun x hx => by
    simp only [Jn.oks] at h
    simp only [Jn.alls] at hx
    simp only [Jn.cnts]
    rcases List.mem_append.mp hx with hx | hx
    · have := all_ok j h.1 x hx
      exact ⟨this.1, by omega⟩
    · have := alls_ok r h.2 x hx
      exact ⟨this.1, by omega⟩
end
theorem take_more {α : Type} {l : List α} {i : Nat} {x : α} (h : l[i]? = some x) : l.take (i + 1) = l.take i ++ [x] := by
  rw [List.take_add_one, h] <;> rfl
theorem alls_take {l : List Jn} {i : Nat} {x : Jn} (h : l[i]? = some x) : Jn.alls (l.take (i + 1)) = Jn.alls (l.take i) ++ x.all := by
  rw [take_more h, alls_append]
  simp [Jn.alls]
theorem cnts_take : ∀ (l : List Jn) (i : Nat), Jn.cnts (l.take i) ≤ Jn.cnts l
  | [], i => by simp [Jn.cnts]
  | j :: r, 0 => by simp [Jn.cnts]
  | j :: r, i + 1 => by simp only [List.take_succ_cons, Jn.cnts]; have := cnts_take r i; omega
end Mine

/-! ### D1 -/
set_option maxHeartbeats 1000000
namespace Mine
open PySem PySem.Spec L2
local macro_rules | `(tactic| walk_at "st") => `(tactic| first
  | ((with_reducible apply rd_var); exact rfl)
  | (with_reducible apply rd_c)
  | (with_reducible apply rd_seq)
  | (with_reducible apply rd_asg)
  | (with_reducible apply rd_gname)
  | (with_reducible apply rd_op)
  | (with_reducible apply rd_cb)
  | (with_reducible apply rd_cons)
  | (with_reducible apply rd_nil)
  | (with_reducible apply rd_if)
  | (with_reducible apply rd_test)
  | (with_reducible apply rd_bl)
  | (with_reducible apply rd_retE)
  | (with_reducible apply rd_ret)
  | (with_reducible apply rd_call)
  | (with_reducible apply rd_tup)
  | (with_reducible apply rd_lst)
  | (with_reducible apply rd_drop)
  | (with_reducible apply rd_next)
  | (with_reducible apply rd_ife)
  | (with_reducible apply rd_gsub)
  | (with_reducible apply rd_par)
  | (with_reducible apply rd_par_end)
  | (with_reducible apply rd_un)
  | (with_reducible apply rd_and)
  | (with_reducible apply rd_or)
  | (with_reducible apply rd_not)
  | (with_reducible apply rd_andV)
  | (with_reducible apply rd_orV)
  | (with_reducible apply rd_notV)
  | (with_reducible apply rd_chain)
  | (with_reducible apply rd_tB)
  | (with_reducible apply rd_brk)
  | (with_reducible apply rd_ct)
  | (with_reducible apply u_add)
  | (with_reducible apply u_sub)
  | (with_reducible apply u_lt)
  | (with_reducible apply u_le)
  | (with_reducible apply u_gt)
  | (with_reducible apply u_ge)
  | (with_reducible apply u_eqI)
  | (with_reducible apply u_eqS)
  | (with_reducible apply u_neI)
  | (with_reducible apply u_int)
  | (with_reducible apply u_intB)
  | (with_reducible apply u_max)
  | (with_reducible apply u_min)
  | (with_reducible apply u_neg)
  | ((with_reducible apply u_mod); focus first | assumption | decide | omega)
  | ((with_reducible apply u_div); focus first | decide | omega | (constructor <;> first | assumption | omega))
  | ((with_reducible apply u_mul); focus first | exact Or.inl (by omega) | exact Or.inr (by omega) | exact Or.inl (by decide) | exact Or.inr (by decide))
  | ((with_reducible apply u_ixL); (focus (first | assumption | exact SqL.of (by assumption) | exact SqL.of upd_same)); exact rfl)
  | ((with_reducible apply u_lenL); focus (first | assumption | exact SqL.of (by assumption) | exact SqL.of upd_same))
  | ((with_reducible apply u_lenT); focus (first | assumption | exact SqT.of (by assumption) | exact SqT.of upd_same))
  | ((with_reducible apply u_setL); (focus (first | assumption | exact upd_same)); exact rfl)
  | (with_reducible apply rd_chain3)
  | (with_reducible apply rd_tru)
  | (with_reducible apply rd_truB)
  | ((with_reducible apply rd_truL); focus (first | assumption | exact SqL.of (by assumption) | exact SqL.of upd_same))
  | (with_reducible apply rd_bm)
  | (with_reducible apply rd_bm0)
  | ((with_reducible apply rd_tyL); focus (first | exact SqL.of (by assumption) | exact SqL.of upd_same))
  | (with_reducible apply u_min3)
  | (with_reducible apply rd_rev)
  | (with_reducible apply rd_iList)
  | (with_reducible apply rd_iTup)
  | (with_reducible apply rd_for)
  | (with_reducible apply rd_rng1)
  | (with_reducible apply rd_rng2)
  | ((with_reducible apply rd_rng1e); (focus omega); (focus omega))
  | ((with_reducible apply rd_rng2e); (focus omega))
  | (with_reducible apply rd_gcons)
  | (with_reducible apply rd_gnil)
  | (with_reducible apply rd_retN)
  | (with_reducible apply g_eqI)
  | (with_reducible apply g_eqS)
  | (with_reducible apply g_neI)
  | (with_reducible apply g_neS)
  | (with_reducible apply g_neB)
  | (with_reducible apply rd_xf)
  | (with_reducible apply rd_raiseE)
  | (with_reducible apply rd_callS)
  | (with_reducible apply u_inD)
  | (with_reducible apply u_notInD)
  | (with_reducible apply u_inS)
  | (with_reducible apply u_notInS)
  | (with_reducible apply rd_iSeq)
  | ((with_reducible apply rd_seqL); (focus first | assumption | exact SqL.of (by assumption) | exact SqL.of upd_same))
  | ((with_reducible apply rd_seqT); (focus first | assumption | exact SqT.of (by assumption) | exact SqT.of upd_same))
  | (with_reducible apply rd_istr)
  | (with_reducible apply rd_istrE)
  | ((with_reducible apply u_isi); (focus (first | exact Or.inl rfl | exact Or.inr (Or.inl rfl) | exact Or.inr (Or.inr (Or.inl rfl)) | exact Or.inr (Or.inr (Or.inr rfl)))); (focus first | assumption | exact Rp.int _ | exact Rp.str _))
  | ((with_reducible apply rd_itL); (focus first | assumption | exact SqL.of (by assumption) | exact SqL.of upd_same))
  | ((with_reducible apply rd_itT); (focus first | assumption | exact SqT.of (by assumption) | exact SqT.of upd_same))
  | (with_reducible apply rd_lc)
  | (with_reducible apply rd_yes)
  | ((with_reducible apply u_pow); (focus (exact ⟨by decide, by decide, by decide⟩)))
  | (with_reducible apply u_mul; focus exact Or.inr cm)
  | (with_reducible apply rd_par3)
  | (with_reducible apply rd_par3_end)
  | ((with_reducible apply rd_aug); exact rfl)
  | (with_reducible apply rd_ipI)
  | (with_reducible apply iteT)
  | (with_reducible apply iteF))
local macro_rules | `(tactic| walk_at "go") => `(tactic| repeat (walk_at "st"))
local macro_rules | `(tactic| walk_at "sp") => `(tactic| (first | refine rd_split (fun c => ?_) (fun c => ?_) | refine rd_splitN (fun c => ?_) (fun c => ?_) | refine rd_splitB (fun c => ?_) (fun c => ?_)))
local macro_rules | `(tactic| walk_at "nx") => `(tactic| repeat (first | (with_reducible apply iteF) | (with_reducible apply iteT) | (with_reducible apply rd_next)))

section
variable {P : Program} {w : World} {K : PySem.W.Frag} {mg : Str → Option Value} {base : Heap}
abbrev s_law_take : Stmt := top 35
theorem sc_law_take : FnScope ["source", "top", "digit"] ["source", "top"] (defScope s_law_take) := ⟨rfl, rfl, rfl, by decide +kernel, rfl, by decide +kernel, by decide +kernel⟩
theorem has_take (O : OwnF K mg "_law_take" s_law_take) (B : Bl mg) : HasF P w K mg base CX0 1 "_law_take" ["source", "top"] spTake := by
  refine has0 O sc_law_take (fun _ _ _ _ _ _ us hl => match us, hl with | [_, _], _ => rfl) (fun vs H Q E h => ?_) (fun f cdv A outer s_ H vs Q E hr h => ?_)
  · obtain ⟨a, t, rfl, _⟩ := h
    rfl
  obtain ⟨a, t, rfl, ⟨b, s, hS, hb, hs, hs2⟩, ht, ht2, q⟩ := h
  refine ⟨_, (pss_cons (ps_if (pt_cmpR gtU (pe_ix (kIx K) (pv 0) pe_int (fun _ _ => rfl)) pe_int (nomark _)) (pss_cons (ps_set (i := 2) sc_law_take.nd rfl (by first | exact Or.inl rfl | exact Or.inr rfl) (pe_op modU (pe_callTy intU (by rfl) B.int (by decide +kernel) (pa_cons (pe_ix (kIx K) (pv 0) pe_int (fun _ _ => rfl)) pa_nil)) (pv 1))) (pss_cons (ps_asg (pe_op divU (pe_ix (kIx K) (pv 0) pe_int (fun _ _ => rfl)) (pv 1)) (pg_sub (pv 0) pe_int set_list)) (pss_one (ps_ret (pv 2))))) pss_nil) (pss_cons (ps_asg (pe_op modU (pe_callTy intU (by rfl) B.int (by decide +kernel) (pa_cons (pe_op (kAdd K) (pe_op (kMul K) (pe_ix (kIx K) (pv 0) pe_int (fun _ _ => rfl)) pe_int) pe_int) pa_nil)) pe_int) (pg_sub (pv 0) pe_int set_list)) (pss_one (ps_ret (pe_op modU (pe_callTy intU (by rfl) B.int (by decide +kernel) (pa_cons (pe_op divU (pe_op modU (pe_callTy intU (by rfl) B.int (by decide +kernel) (pa_cons (pe_op (kMul K) (pe_ix (kIx K) (pv 0) pe_int (fun _ _ => rfl)) (pe_ix (kIx K) (pv 0) pe_int (fun _ _ => rfl))) pa_nil)) pe_int) pe_int) pa_nil)) (pv 1)))))), ?_⟩
  refine st0 [some (.ref a), some (.int t), none] rfl ?_
  walk_at "go"
  refine rd_split (fun c => ?_) (fun c => ?_)
  · walk_at "go"
    refine q _ _ SB.upd ⟨b / t, s, upd_same, Int.ediv_nonneg hb (by omega), hs, hs2⟩ (Int.emod_nonneg _ (by omega)) (Int.emod_lt_of_pos _ ht)
  · walk_at "go"
    refine q _ _ SB.upd ⟨b, _, upd_same, hb, Int.emod_nonneg _ (by omega), Int.emod_lt_of_pos _ (by omega)⟩ (Int.emod_nonneg _ (by omega)) (Int.emod_lt_of_pos _ ht)
abbrev s_law_one : Stmt := top 36
theorem sc_law_one : FnScope ["source", "things"] ["source", "things"] (defScope s_law_one) := ⟨rfl, rfl, rfl, by decide +kernel, rfl, by decide +kernel, by decide +kernel⟩
theorem has_one (O : OwnF K mg "_law_one" s_law_one) (B : Bl mg) (h_law_take : HasF P w K mg base CX0 1 "_law_take" ["source", "top"] spTake) : HasF P w K mg base CX0 2 "_law_one" ["source", "things"] (spOne K) := by
  refine has0 O sc_law_one (fun _ _ _ _ _ _ us hl => match us, hl with | [_, _], _ => rfl) (fun vs H Q E h => ?_) (fun f cdv A outer s_ H vs Q E hr h => ?_)
  · obtain ⟨a, p, xs, rfl, _⟩ := h
    rfl
  obtain ⟨a, p, xs, rfl, hS, hX, hn, h0, h1, q⟩ := h
  refine ⟨_, (pss_one (ps_ret (pe_ix (kIx K) (pv 1) (pe_callH h_law_take (hr.mono (by first | decide | omega)) (by rfl) pass0 (pa_cons (pv 0) (pa_cons (pe_callB (kLen K) (by rfl) B.len (by decide +kernel) (pa_cons (pv 1) pa_nil)) pa_nil))) (fun _ _ => rfl)))), ?_⟩
  refine st0 [some (.ref a), some (.ref p)] rfl ?_
  walk_at "go"
  refine use_take hS (by omega) (by omega) fun H' r hs hS' hr0 hr1 => ?_
  obtain ⟨v, e, m⟩ := at_in hr0 hr1
  exact u_ixL (hs.seqL hn hX) e (q _ _ hs hS' m)
abbrev s_law_pool : Stmt := top 34
theorem sc_law_pool : FnScope ["script", "k", "cell", "big", "stirred"] ["script", "k"] (defScope s_law_pool) := ⟨rfl, rfl, rfl, by decide +kernel, rfl, by decide +kernel, by decide +kernel⟩
def spPool (K : PySem.W.Frag) : Sp := fun vs H Q _ => ∃ (a : Addr) (ns : List Int) (k : Int), vs = [.ref a, .int k] ∧ SqL K H a (ns.map V.int) ∧ 0 ≤ k ∧ k < 1000 ∧
  ∀ (H' : Hp) (p : Addr), Same H H' → H p = none → Src H' p → Q (.ref p) H'
theorem has_pool (O : OwnF K mg "_law_pool" s_law_pool) (B : Bl mg) : HasF P w K mg base CX0 1 "_law_pool" ["script", "k"] (spPool K) := by
  refine has0 O sc_law_pool (fun _ _ _ _ _ _ us hl => match us, hl with | [_, _], _ => rfl) (fun vs H Q E h => ?_) (fun f cdv A outer s_ H vs Q E hr h => ?_)
  · obtain ⟨a, ns, k, rfl, _⟩ := h
    rfl
  obtain ⟨a, ns, k, rfl, hL, hk0, hk1, q⟩ := h
  have hl : (ns.map V.int).length = ns.length := List.length_map _
  refine ⟨_, (pss_cons (ps_set (i := 2) sc_law_pool.nd rfl (by first | exact Or.inl rfl | exact Or.inr rfl) pe_int) (pss_cons (ps_if (pt_cmpR ltU (pv 1) (pe_callB (kLen K) (by rfl) B.len (by decide +kernel) (pa_cons (pv 0) pa_nil)) (nomark _)) (pss_one (ps_set (i := 2) sc_law_pool.nd rfl (by first | exact Or.inl rfl | exact Or.inr rfl) (pe_ix (kIx K) (pv 0) (pv 1) (fun _ _ => rfl)))) (pss_one (ps_if (pt_truthK K (pv 0) (by intro _; rfl)) (pss_one (ps_set (i := 2) sc_law_pool.nd rfl (by first | exact Or.inl rfl | exact Or.inr rfl) (pe_ix (kIx K) (pv 0) pe_int (fun _ _ => rfl)))) pss_nil))) (pss_cons (ps_set (i := 3) sc_law_pool.nd rfl (by first | exact Or.inl rfl | exact Or.inr rfl) (pe_callB (max2U rfl) (by rfl) B.max (by decide +kernel) (pa_cons (pe_callTy intU (by rfl) B.int (by decide +kernel) (pa_cons (pv 2) pa_nil)) (pa_cons (pe_callTy intU (by rfl) B.int (by decide +kernel) (pa_cons (pe_op subU (pe_un un_neg pe_int) (pv 2)) pa_nil)) pa_nil)))) (pss_cons (ps_set (i := 4) sc_law_pool.nd rfl (by first | exact Or.inl rfl | exact Or.inr rfl) (pe_op modU (pe_callTy intU (by rfl) B.int (by decide +kernel) (pa_cons (pe_op (kMul K) (pe_op (kAdd K) (pe_op (kAdd K) (pe_op (kAdd K) (pe_op modU (pe_callTy intU (by rfl) B.int (by decide +kernel) (pa_cons (pv 3) pa_nil)) pe_int) (pe_op (kMul K) (pe_op (kMul K) pe_int (pv 1)) (pv 1))) (pe_op (kMul K) pe_int (pv 1))) pe_int) pe_int) pa_nil)) pe_int)) (pss_one (ps_ret (pe_lst (pa_cons (pe_op (kMul K) (pv 3) (pe_callTy intU (by rfl) B.int (by decide +kernel) (pa_cons (pe_cmpR geU (pv 3) (pe_op powU pe_int pe_int) (nomark _)) pa_nil))) (pa_cons (pv 4) pa_nil))))))))), ?_⟩
  refine st0 [some (.ref a), some (.int k), none, none, none] rfl ?_
  walk_at "go"
  rw [hl]
  refine rd_split (fun c => ?_) (fun c => ?_)
  rotate_left
  walk_at "go"
  refine rd_splitB (fun c2 => ?_) (fun c2 => ?_)
  rotate_left 2
  · obtain ⟨n, e⟩ := at_ints (ns := ns) hk0 c
    walk_at "go"
    refine u_ixL hL e ?_
    walk_at "go"
    refine ⟨lk rfl, fun p hp => ?_⟩
    refine q _ p (same_new hp _) hp ⟨_, _, upd_same, ?_, Int.emod_nonneg _ (by omega), Int.emod_lt_of_pos _ (by omega)⟩
    exact Int.mul_nonneg (by split <;> omega) (by split <;> omega)
  · have c3 := isE c2
    obtain ⟨n, e⟩ := at_ints (ns := ns) (i := 0) (by omega) (by omega)
    walk_at "go"
    refine u_ixL hL e ?_
    walk_at "go"
    refine ⟨lk rfl, fun p hp => ?_⟩
    refine q _ p (same_new hp _) hp ⟨_, _, upd_same, ?_, Int.emod_nonneg _ (by omega), Int.emod_lt_of_pos _ (by omega)⟩
    exact Int.mul_nonneg (by split <;> omega) (by split <;> omega)
  · walk_at "go"
    refine ⟨lk rfl, fun p hp => ?_⟩
    refine q _ p (same_new hp _) hp ⟨_, _, upd_same, ?_, Int.emod_nonneg _ (by omega), Int.emod_lt_of_pos _ (by omega)⟩
    exact Int.mul_nonneg (by split <;> omega) (by split <;> omega)
end
end Mine

/-! ### D2 -/
set_option maxHeartbeats 1000000
namespace Mine
open PySem PySem.Spec L2
local macro_rules | `(tactic| walk_at "st") => `(tactic| first
  | ((with_reducible apply rd_var); exact rfl)
  | (with_reducible apply rd_c)
  | (with_reducible apply rd_seq)
  | (with_reducible apply rd_asg)
  | (with_reducible apply rd_gname)
  | (with_reducible apply rd_op)
  | (with_reducible apply rd_cb)
  | (with_reducible apply rd_cons)
  | (with_reducible apply rd_nil)
  | (with_reducible apply rd_if)
  | (with_reducible apply rd_test)
  | (with_reducible apply rd_bl)
  | (with_reducible apply rd_retE)
  | (with_reducible apply rd_ret)
  | (with_reducible apply rd_call)
  | (with_reducible apply rd_tup)
  | (with_reducible apply rd_lst)
  | (with_reducible apply rd_drop)
  | (with_reducible apply rd_next)
  | (with_reducible apply rd_ife)
  | (with_reducible apply rd_gsub)
  | (with_reducible apply rd_par)
  | (with_reducible apply rd_par_end)
  | (with_reducible apply rd_un)
  | (with_reducible apply rd_and)
  | (with_reducible apply rd_or)
  | (with_reducible apply rd_not)
  | (with_reducible apply rd_andV)
  | (with_reducible apply rd_orV)
  | (with_reducible apply rd_notV)
  | (with_reducible apply rd_chain)
  | (with_reducible apply rd_tB)
  | (with_reducible apply rd_brk)
  | (with_reducible apply rd_ct)
  | (with_reducible apply u_add)
  | (with_reducible apply u_sub)
  | (with_reducible apply u_lt)
  | (with_reducible apply u_le)
  | (with_reducible apply u_gt)
  | (with_reducible apply u_ge)
  | (with_reducible apply u_eqI)
  | (with_reducible apply u_eqS)
  | (with_reducible apply u_neI)
  | (with_reducible apply u_int)
  | (with_reducible apply u_intB)
  | (with_reducible apply u_max)
  | (with_reducible apply u_min)
  | (with_reducible apply u_neg)
  | ((with_reducible apply u_mod); focus first | assumption | decide | omega)
  | ((with_reducible apply u_div); focus first | decide | omega | (constructor <;> first | assumption | omega))
  | ((with_reducible apply u_mul); focus first | exact Or.inl (by omega) | exact Or.inr (by omega) | exact Or.inl (by decide) | exact Or.inr (by decide))
  | ((with_reducible apply u_ixL); (focus (first | assumption | exact SqL.of (by assumption) | exact SqL.of upd_same)); exact rfl)
  | ((with_reducible apply u_lenL); focus (first | assumption | exact SqL.of (by assumption) | exact SqL.of upd_same))
  | ((with_reducible apply u_lenT); focus (first | assumption | exact SqT.of (by assumption) | exact SqT.of upd_same))
  | ((with_reducible apply u_setL); (focus (first | assumption | exact upd_same)); exact rfl)
  | (with_reducible apply rd_chain3)
  | (with_reducible apply rd_tru)
  | (with_reducible apply rd_truB)
  | ((with_reducible apply rd_truL); focus (first | assumption | exact SqL.of (by assumption) | exact SqL.of upd_same))
  | (with_reducible apply rd_bm)
  | (with_reducible apply rd_bm0)
  | ((with_reducible apply rd_tyL); focus (first | exact SqL.of (by assumption) | exact SqL.of upd_same))
  | (with_reducible apply u_min3)
  | (with_reducible apply rd_rev)
  | (with_reducible apply rd_iList)
  | (with_reducible apply rd_iTup)
  | (with_reducible apply rd_for)
  | (with_reducible apply rd_rng1)
  | (with_reducible apply rd_rng2)
  | ((with_reducible apply rd_rng1e); (focus omega); (focus omega))
  | ((with_reducible apply rd_rng2e); (focus omega))
  | (with_reducible apply rd_gcons)
  | (with_reducible apply rd_gnil)
  | (with_reducible apply rd_retN)
  | (with_reducible apply g_eqI)
  | (with_reducible apply g_eqS)
  | (with_reducible apply g_neI)
  | (with_reducible apply g_neS)
  | (with_reducible apply g_neB)
  | (with_reducible apply rd_xf)
  | (with_reducible apply rd_raiseE)
  | (with_reducible apply rd_callS)
  | (with_reducible apply u_inD)
  | (with_reducible apply u_notInD)
  | (with_reducible apply u_inS)
  | (with_reducible apply u_notInS)
  | (with_reducible apply rd_iSeq)
  | ((with_reducible apply rd_seqL); (focus first | assumption | exact SqL.of (by assumption) | exact SqL.of upd_same))
  | ((with_reducible apply rd_seqT); (focus first | assumption | exact SqT.of (by assumption) | exact SqT.of upd_same))
  | (with_reducible apply rd_istr)
  | (with_reducible apply rd_istrE)
  | ((with_reducible apply u_isi); (focus (first | exact Or.inl rfl | exact Or.inr (Or.inl rfl) | exact Or.inr (Or.inr (Or.inl rfl)) | exact Or.inr (Or.inr (Or.inr rfl)))); (focus first | assumption | exact Rp.int _ | exact Rp.str _))
  | ((with_reducible apply rd_itL); (focus first | assumption | exact SqL.of (by assumption) | exact SqL.of upd_same))
  | ((with_reducible apply rd_itT); (focus first | assumption | exact SqT.of (by assumption) | exact SqT.of upd_same))
  | (with_reducible apply rd_lc)
  | (with_reducible apply rd_yes)
  | ((with_reducible apply u_pow); (focus (exact ⟨by decide, by decide, by decide⟩)))
  | (with_reducible apply u_mul; focus exact Or.inr cm)
  | (with_reducible apply rd_par3)
  | (with_reducible apply rd_par3_end)
  | ((with_reducible apply rd_aug); exact rfl)
  | (with_reducible apply rd_ipI)
  | (with_reducible apply iteT)
  | (with_reducible apply iteF))
local macro_rules | `(tactic| walk_at "go") => `(tactic| repeat (walk_at "st"))
local macro_rules | `(tactic| walk_at "sp") => `(tactic| (first | refine rd_split (fun c => ?_) (fun c => ?_) | refine rd_splitN (fun c => ?_) (fun c => ?_) | refine rd_splitB (fun c => ?_) (fun c => ?_)))
local macro_rules | `(tactic| walk_at "nx") => `(tactic| repeat (first | (with_reducible apply iteF) | (with_reducible apply iteT) | (with_reducible apply rd_next)))

section
variable {P : Program} {w : World} {K : PySem.W.Frag} {mg : Str → Option Value} {base : Heap}
theorem at_letter {i : Int} (h0 : 0 ≤ i) (h1 : i < 26) : ∃ c : Nat, atI Letters.cps.toList i = some c ∧ (c : Int) = 97 + i := by
  have e : i = ((i.toNat : Nat) : Int) := by omega
  have h : i.toNat < 26 := by omega
  have hh : ∀ k : Nat, k < 26 → Letters.cps.toList[k]? = some (97 + k) := by decide +kernel
  refine ⟨97 + i.toNat, ?_, by omega⟩
  have q : atI Letters.cps.toList ((i.toNat : Nat) : Int) = some (97 + i.toNat) := atI_nat (hh _ h)
  rw [← e] at q
  exact q
def Low (l : List Nat) : Prop := ∀ c ∈ l, 97 ≤ c ∧ c ≤ 122
/-- the name for a size: two letters that tell it, up to six more -/
def NameOf (k : Int) (z : Str) : Prop := ∃ (c1 c2 : Nat) (rest : List Nat), z.cps.toList = c1 :: c2 :: rest ∧ (c1 : Int) = 97 + k / 26 ∧ (c2 : Int) = 97 + k % 26 ∧ rest.length ≤ 6 ∧ Low rest
def spName : Sp := fun vs H Q _ => ∃ (a : Addr) (k : Int), vs = [.ref a, .int k] ∧ Src H a ∧ 0 ≤ k ∧ k < 676 ∧
  ∀ (H' : Hp) (z : Str), SB a H H' → Src H' a → NameOf k z → Q (.str z) H'
theorem use_name {a : Addr} {k : Int} {H : Hp} {Q : VK} {E : XK} (h : Src H a) (h1 : 0 ≤ k) (h2 : k < 676) (q : ∀ (H' : Hp) (z : Str), SB a H H' → Src H' a → NameOf k z → Q (.str z) H') : spName [.ref a, .int k] H Q E := ⟨a, k, rfl, h, h1, h2, q⟩
abbrev s_law_name : Stmt := top 37
theorem sc_law_name : FnScope ["source", "k", "letters", "found", "turn"] ["source", "k"] (defScope s_law_name) := ⟨rfl, rfl, rfl, by decide +kernel, rfl, by decide +kernel, by decide +kernel⟩
theorem has_name (O : OwnF K mg "_law_name" s_law_name) (B : Bl mg) (h_law_take : HasF P w K mg base CX0 1 "_law_take" ["source", "top"] spTake) : HasF P w K mg base CX0 2 "_law_name" ["source", "k"] spName := by
  refine has0 O sc_law_name (fun _ _ _ _ _ _ us hl => match us, hl with | [_, _], _ => rfl) (fun vs H Q E h => ?_) (fun f cdv A outer s_ H vs Q E hr h => ?_)
  · obtain ⟨a, k, rfl, _⟩ := h
    rfl
  obtain ⟨a, k, rfl, hS, hk0, hk1, q⟩ := h
  refine ⟨_, (pss_cons (ps_asg (pe_tup (pa_cons pe_str (pa_cons pe_str pa_nil))) (pg_tupK (n := 2) K rfl (pgs_cons (pg_name (i := 2) sc_law_name.nd rfl (by first | exact Or.inl rfl | exact Or.inr rfl)) (pgs_cons (pg_name (i := 3) sc_law_name.nd rfl (by first | exact Or.inl rfl | exact Or.inr rfl)) pgs_nil)))) (pss_cons (ps_for PassesOwn.never rfl (pi_range1 (by rfl) B.range (pa_cons (pe_callH h_law_take (hr.mono (by first | decide | omega)) (by rfl) pass0 (pa_cons (pv 0) (pa_cons pe_int pa_nil))) pa_nil)) (pg_name (i := 4) sc_law_name.nd rfl (by first | exact Or.inl rfl | exact Or.inr rfl)) (pss_one (ps_set (i := 3) sc_law_name.nd rfl (by first | exact Or.inl rfl | exact Or.inr rfl) (pe_op (kAdd K) (pv 3) (pe_ix (kIx K) (pv 2) (pe_callH h_law_take (hr.mono (by first | decide | omega)) (by rfl) pass0 (pa_cons (pv 0) (pa_cons pe_int pa_nil))) (fun _ _ => rfl)))))) (pss_one (ps_ret (pe_op (kAdd K) (pe_op (kAdd K) (pe_ix (kIx K) (pv 2) (pe_op divU (pv 1) pe_int) (fun _ _ => rfl)) (pe_ix (kIx K) (pv 2) (pe_op modU (pe_callTy intU (by rfl) B.int (by decide +kernel) (pa_cons (pv 1) pa_nil)) pe_int) (fun _ _ => rfl))) (pv 3)))))), ?_⟩
  refine st0 [some (.ref a), some (.int k), none, none, none] rfl ?_
  walk_at "go"
  refine ⟨lk rfl, fun p0 hp0 => rd_gtup (SqT.of upd_same) rfl ?_⟩
  have s0 : SB a H (upd H p0 (.tup [.str Letters, .str ""])) := SB.refl.new hp0
  walk_at "go"
  refine use_take (hS.new hp0) (by omega) (by omega) fun H1 r s1 hS1 hr0 hr1 => ?_
  walk_at "go"
  refine forR (fun i σ H2 => ∃ (z : Str) (o : Option V), σ = [some (.ref a), some (.int k), some (.str Letters), some (.str z), o] ∧ SB a H H2 ∧ Src H2 a ∧ z.cps.toList.length = i ∧ Low z.cps.toList)
    ⟨Str.ofString "", none, rfl, s0.trans s1, hS1, by decide +kernel, fun c hc => by rw [show (Str.ofString "").cps.toList = [] from by decide +kernel] at hc; cases hc⟩ ?_ ?_
  · rintro i σ H2 hi ⟨z, o, rfl, s2, hS2, hl, hz⟩
    walk_at "go"
    refine use_take hS2 (by omega) (by omega) fun H3 r3 s3 hS3 h30 h31 => ?_
    obtain ⟨c, e, hc⟩ := at_letter h30 h31
    refine u_ixS (lk rfl) e ?_
    walk_at "go"
    refine u_addS ?_ ?_
    · rw [len_list, hl]
      exact ll (by show i + 1 ≤ 1000000; omega)
    walk_at "go"
    refine ⟨_, _, rfl, s2.trans s3, hS3, ?_, ?_⟩
    · rw [app_list, List.length_append, hl] <;> rfl
    · rw [app_list]
      intro d hd
      rcases List.mem_append.mp hd with h | h
      · exact hz d h
      · have e2 : d = c := by simpa using h
        subst e2
        omega
  · rintro σ H2 ⟨z, o, rfl, s2, hS2, hl, hz⟩
    walk_at "go"
    obtain ⟨c1, e1, h1⟩ := at_letter (i := k / 26) (by omega) (by omega)
    refine u_ixS (lk rfl) e1 ?_
    walk_at "go"
    obtain ⟨c2, e2, h2⟩ := at_letter (i := k % 26) (by omega) (by omega)
    refine u_ixS (lk rfl) e2 ?_
    refine u_addS (lk rfl) ?_
    walk_at "go"
    refine u_addS ?_ ?_
    · rw [len_list z, hl]
      exact ll (by show 2 + r.toNat ≤ 1000000; omega)
    refine q _ _ s2 hS2 ⟨c1, c2, z.cps.toList, ?_, h1, h2, by omega, hz⟩
    rw [app_list]
    rfl
abbrev s_law_digit : Stmt := top 38
theorem sc_law_digit : FnScope ["source", "far"] ["source"] (defScope s_law_digit) := ⟨rfl, rfl, rfl, by decide +kernel, rfl, by decide +kernel, by decide +kernel⟩
def spDigit : Sp := fun vs H Q _ => ∃ (a : Addr), vs = [.ref a] ∧ Src H a ∧ ∀ (H' : Hp) (r : Int), SB a H H' → Src H' a → 0 ≤ r → r < 1000003 → Q (.int r) H'
theorem use_digit {a : Addr} {H : Hp} {Q : VK} {E : XK} (h : Src H a) (q : ∀ (H' : Hp) (r : Int), SB a H H' → Src H' a → 0 ≤ r → r < 1000003 → Q (.int r) H') : spDigit [.ref a] H Q E := ⟨a, rfl, h, q⟩
theorem has_digit (O : OwnF K mg "_law_digit" s_law_digit) (B : Bl mg) (h_law_take : HasF P w K mg base CX0 1 "_law_take" ["source", "top"] spTake) (h_law_one : HasF P w K mg base CX0 2 "_law_one" ["source", "things"] (spOne K)) : HasF P w K mg base CX0 3 "_law_digit" ["source"] spDigit := by
  refine has0 O sc_law_digit (fun _ _ _ _ _ _ us hl => match us, hl with | [_], _ => rfl) (fun vs H Q E h => ?_) (fun f cdv A outer s_ H vs Q E hr h => ?_)
  · obtain ⟨a, rfl, _⟩ := h
    rfl
  obtain ⟨a, rfl, hS, q⟩ := h
  refine ⟨_, (pss_cons (ps_set (i := 1) sc_law_digit.nd rfl (by first | exact Or.inl rfl | exact Or.inr rfl) (pe_lst (pa_cons (pe_op subU pe_int (pe_callH h_law_take (hr.mono (by first | decide | omega)) (by rfl) pass0 (pa_cons (pv 0) (pa_cons pe_int pa_nil)))) (pa_cons (pe_callH h_law_take (hr.mono (by first | decide | omega)) (by rfl) pass0 (pa_cons (pv 0) (pa_cons pe_int pa_nil))) pa_nil)))) (pss_one (ps_ret (pe_callH h_law_one (hr.mono (by first | decide | omega)) (by rfl) pass0 (pa_cons (pv 0) (pa_cons (pe_op (kAdd K) (pe_lst (pa_cons (pe_callH h_law_take (hr.mono (by first | decide | omega)) (by rfl) pass0 (pa_cons (pv 0) (pa_cons pe_int pa_nil))) (pa_cons (pe_callH h_law_take (hr.mono (by first | decide | omega)) (by rfl) pass0 (pa_cons (pv 0) (pa_cons pe_int pa_nil))) pa_nil))) (pv 1)) pa_nil)))))), ?_⟩
  refine st0 [some (.ref a), none] rfl ?_
  walk_at "go"
  refine use_take hS (by omega) (by omega) fun H1 r1 s1 hS1 h10 h11 => ?_
  walk_at "go"
  refine use_take hS1 (by omega) (by omega) fun H2 r2 s2 hS2 h20 h21 => ?_
  walk_at "go"
  refine ⟨lk rfl, fun p hp => ?_⟩
  have nP := hS2.ne hp
  walk_at "go"
  refine use_take (hS2.new hp) (by omega) (by omega) fun H3 r3 s3 hS3 h30 h31 => ?_
  walk_at "go"
  refine use_take hS3 (by omega) (by omega) fun H4 r4 s4 hS4 h40 h41 => ?_
  walk_at "go"
  refine ⟨lk rfl, fun p2 hp2 => ?_⟩
  have nP2 := hS4.ne hp2
  have f1 : H4 p = some (.lst [.int (1000002 - r1), .int r2]) := s4 _ _ nP (s3 _ _ nP upd_same)
  have n12 : p ≠ p2 := ne_of_none f1 hp2
  walk_at "go"
  refine u_addL upd_same (by rw [upd_ne n12]; exact f1) (lk rfl) fun p3 hp3 => ?_
  walk_at "go"
  have hS5 : Src (upd H4 p2 (.lst [.int r3, .int r4])) a := hS4.new hp2
  refine use_one (xs := [.int r3, .int r4, .int (1000002 - r1), .int r2]) (hS5.new hp3) (SqL.of upd_same) (hS5.ne hp3) (by show 0 < 4; omega) (by show 4 < 1000; omega) fun H6 v s6 hS6 hv => ?_
  have sb : SB a H H6 := ((((s1.trans s2).trans ((SB.refl.new hp).trans s3)).trans s4).trans (((SB.refl.new hp2)).new hp3)).trans s6
  have hv' : v = .int r3 ∨ v = .int r4 ∨ v = .int (1000002 - r1) ∨ v = .int r2 := by simpa using hv
  rcases hv' with rfl | rfl | rfl | rfl
  · exact q _ _ sb hS6 (by omega) (by omega)
  · exact q _ _ sb hS6 (by omega) (by omega)
  · exact q _ _ sb hS6 (by omega) (by omega)
  · exact q _ _ sb hS6 (by omega) (by omega)
end
end Mine

/-! ### P1 -/
set_option maxHeartbeats 1000000
namespace Mine
open PySem PySem.Spec L2
local macro_rules | `(tactic| walk_at "st") => `(tactic| first
  | ((with_reducible apply rd_var); exact rfl)
  | (with_reducible apply rd_c)
  | (with_reducible apply rd_seq)
  | (with_reducible apply rd_asg)
  | (with_reducible apply rd_gname)
  | (with_reducible apply rd_op)
  | (with_reducible apply rd_cb)
  | (with_reducible apply rd_cons)
  | (with_reducible apply rd_nil)
  | (with_reducible apply rd_if)
  | (with_reducible apply rd_test)
  | (with_reducible apply rd_bl)
  | (with_reducible apply rd_retE)
  | (with_reducible apply rd_ret)
  | (with_reducible apply rd_call)
  | (with_reducible apply rd_tup)
  | (with_reducible apply rd_lst)
  | (with_reducible apply rd_drop)
  | (with_reducible apply rd_next)
  | (with_reducible apply rd_ife)
  | (with_reducible apply rd_gsub)
  | (with_reducible apply rd_par)
  | (with_reducible apply rd_par_end)
  | (with_reducible apply rd_un)
  | (with_reducible apply rd_and)
  | (with_reducible apply rd_or)
  | (with_reducible apply rd_not)
  | (with_reducible apply rd_andV)
  | (with_reducible apply rd_orV)
  | (with_reducible apply rd_notV)
  | (with_reducible apply rd_chain)
  | (with_reducible apply rd_tB)
  | (with_reducible apply rd_brk)
  | (with_reducible apply rd_ct)
  | (with_reducible apply u_add)
  | (with_reducible apply u_sub)
  | (with_reducible apply u_lt)
  | (with_reducible apply u_le)
  | (with_reducible apply u_gt)
  | (with_reducible apply u_ge)
  | (with_reducible apply u_eqI)
  | (with_reducible apply u_eqS)
  | (with_reducible apply u_neI)
  | (with_reducible apply u_int)
  | (with_reducible apply u_intB)
  | (with_reducible apply u_max)
  | (with_reducible apply u_min)
  | (with_reducible apply u_neg)
  | ((with_reducible apply u_mod); focus first | assumption | decide | omega)
  | ((with_reducible apply u_div); focus first | decide | omega | (constructor <;> first | assumption | omega))
  | ((with_reducible apply u_mul); focus first | exact Or.inl (by omega) | exact Or.inr (by omega) | exact Or.inl (by decide) | exact Or.inr (by decide))
  | ((with_reducible apply u_ixL); (focus (first | assumption | exact SqL.of (by assumption) | exact SqL.of upd_same)); exact rfl)
  | ((with_reducible apply u_lenL); focus (first | assumption | exact SqL.of (by assumption) | exact SqL.of upd_same))
  | ((with_reducible apply u_lenT); focus (first | assumption | exact SqT.of (by assumption) | exact SqT.of upd_same))
  | ((with_reducible apply u_setL); (focus (first | assumption | exact upd_same)); exact rfl)
  | (with_reducible apply rd_chain3)
  | (with_reducible apply rd_tru)
  | (with_reducible apply rd_truB)
  | ((with_reducible apply rd_truL); focus (first | assumption | exact SqL.of (by assumption) | exact SqL.of upd_same))
  | (with_reducible apply rd_bm)
  | (with_reducible apply rd_bm0)
  | ((with_reducible apply rd_tyL); focus (first | exact SqL.of (by assumption) | exact SqL.of upd_same))
  | (with_reducible apply u_min3)
  | (with_reducible apply rd_rev)
  | (with_reducible apply rd_iList)
  | (with_reducible apply rd_iTup)
  | (with_reducible apply rd_for)
  | (with_reducible apply rd_rng1)
  | (with_reducible apply rd_rng2)
  | ((with_reducible apply rd_rng1e); (focus omega); (focus omega))
  | ((with_reducible apply rd_rng2e); (focus omega))
  | (with_reducible apply rd_gcons)
  | (with_reducible apply rd_gnil)
  | (with_reducible apply rd_retN)
  | (with_reducible apply g_eqI)
  | (with_reducible apply g_eqS)
  | (with_reducible apply g_neI)
  | (with_reducible apply g_neS)
  | (with_reducible apply g_neB)
  | (with_reducible apply rd_xf)
  | (with_reducible apply rd_raiseE)
  | (with_reducible apply rd_callS)
  | (with_reducible apply u_inD)
  | (with_reducible apply u_notInD)
  | (with_reducible apply u_inS)
  | (with_reducible apply u_notInS)
  | (with_reducible apply rd_iSeq)
  | ((with_reducible apply rd_seqL); (focus first | assumption | exact SqL.of (by assumption) | exact SqL.of upd_same))
  | ((with_reducible apply rd_seqT); (focus first | assumption | exact SqT.of (by assumption) | exact SqT.of upd_same))
  | (with_reducible apply rd_istr)
  | (with_reducible apply rd_istrE)
  | ((with_reducible apply u_isi); (focus (first | exact Or.inl rfl | exact Or.inr (Or.inl rfl) | exact Or.inr (Or.inr (Or.inl rfl)) | exact Or.inr (Or.inr (Or.inr rfl)))); (focus first | assumption | exact Rp.int _ | exact Rp.str _))
  | ((with_reducible apply rd_itL); (focus first | assumption | exact SqL.of (by assumption) | exact SqL.of upd_same))
  | ((with_reducible apply rd_itT); (focus first | assumption | exact SqT.of (by assumption) | exact SqT.of upd_same))
  | (with_reducible apply rd_lc)
  | (with_reducible apply rd_yes)
  | ((with_reducible apply u_pow); (focus (exact ⟨by decide, by decide, by decide⟩)))
  | (with_reducible apply u_mul; focus exact Or.inr cm)
  | (with_reducible apply rd_par3)
  | (with_reducible apply rd_par3_end)
  | ((with_reducible apply rd_aug); exact rfl)
  | (with_reducible apply rd_ipI)
  | (with_reducible apply iteT)
  | (with_reducible apply iteF))
local macro_rules | `(tactic| walk_at "go") => `(tactic| repeat (walk_at "st"))
local macro_rules | `(tactic| walk_at "sp") => `(tactic| (first | refine rd_split (fun c => ?_) (fun c => ?_) | refine rd_splitN (fun c => ?_) (fun c => ?_) | refine rd_splitB (fun c => ?_) (fun c => ?_)))
local macro_rules | `(tactic| walk_at "nx") => `(tactic| repeat (first | (with_reducible apply iteF) | (with_reducible apply iteT) | (with_reducible apply rd_next)))

section
variable {P : Program} {w : World} {K : PySem.W.Frag} {mg : Str → Option Value} {base : Heap}
/-- the module's constants -/
structure Cst (mg : Str → Option Value) : Prop where
  MODULUS : ∃ t, mg "MODULUS" = some (.int 1000003 t)
  LONGEST_ROW : ∃ t, mg "LONGEST_ROW" = some (.int 64 t)
  LONGEST_WORD : ∃ t, mg "LONGEST_WORD" = some (.int 8 t)
  MOST_TIMES : ∃ t, mg "MOST_TIMES" = some (.int 16 t)
  LETTERS : ∃ t, mg "LETTERS" = some (.str Letters t)
  MOST_JOINTS : ∃ t, mg "MOST_JOINTS" = some (.int 40 t)
/-- a question about data: f tells the answer -/
def spAsk (K : PySem.W.Frag) (f : PyData → Bool) : Sp := fun vs H Q _ => ∃ (v : V) (d : PyData), vs = [v] ∧ Rp K H v d ∧ dat d ∧ ∀ H', Same H H' → Q (.bl (f d)) H'
theorem use_ask {K : PySem.W.Frag} {f : PyData → Bool} {v : V} {d : PyData} {H : Hp} {Q : VK} {E : XK} (r : Rp K H v d) (hd : dat d) (q : ∀ H', Same H H' → Q (.bl (f d)) H') : spAsk K f [v] H Q E := ⟨v, d, rfl, r, hd, q⟩
/-- .. about a row of data -/
def spAsks (K : PySem.W.Frag) (f : List PyData → Bool) : Sp := fun vs H Q _ => ∃ (a : Addr) (xs : List V) (ds : List PyData), vs = [.ref a] ∧ SqT K H a xs ∧ Rps K H xs ds ∧ ds.length ≤ 1000 ∧ dats ds ∧ ∀ H', Same H H' → Q (.bl (f ds)) H'
theorem use_asks {K : PySem.W.Frag} {f : List PyData → Bool} {a : Addr} {xs : List V} {ds : List PyData} {H : Hp} {Q : VK} {E : XK} (s : SqT K H a xs) (r : Rps K H xs ds) (l : ds.length ≤ 1000) (hd : dats ds) (q : ∀ H', Same H H' → Q (.bl (f ds)) H') : spAsks K f [.ref a] H Q E := ⟨a, xs, ds, rfl, s, r, l, hd, q⟩
def spBtw (K : PySem.W.Frag) : Sp := fun vs H Q _ => ∃ (v : V) (d : PyData) (lo hi : Int), vs = [v, .int lo, .int hi] ∧ Rp K H v d ∧ Q (.bl (isBtw d lo hi)) H
theorem use_btw {K : PySem.W.Frag} {v : V} {d : PyData} {lo hi : Int} {H : Hp} {Q : VK} {E : XK} (r : Rp K H v d) (q : Q (.bl (isBtw d lo hi)) H) : spBtw K [v, .int lo, .int hi] H Q E := ⟨v, d, lo, hi, rfl, r, q⟩
def spNum (K : PySem.W.Frag) : Sp := fun vs H Q _ => ∃ (v : V) (d : PyData), vs = [v] ∧ Rp K H v d ∧ Q (.bl (isNum d)) H
theorem use_num {K : PySem.W.Frag} {v : V} {d : PyData} {H : Hp} {Q : VK} {E : XK} (r : Rp K H v d) (q : Q (.bl (isNum d)) H) : spNum K [v] H Q E := ⟨v, d, rfl, r, q⟩
abbrev s_is_number : Stmt := top 13
theorem sc_is_number : FnScope ["thing"] ["thing"] (defScope s_is_number) := ⟨rfl, rfl, rfl, by decide +kernel, rfl, by decide +kernel, by decide +kernel⟩
theorem has_is_number (O : OwnF K mg "is_number" s_is_number) (B : Bl mg) : HasF P w K mg base CX0 1 "is_number" ["thing"] (spNum K) := by
  refine has0 O sc_is_number (fun _ _ _ _ _ _ us hl => match us, hl with | [_], _ => rfl) (fun vs H Q E h => ?_) (fun f cdv A outer s_ H vs Q E hr h => ?_)
  · obtain ⟨v, d, rfl, _⟩ := h
    rfl
  obtain ⟨v, d, rfl, r, q⟩ := h
  refine ⟨_, (pss_one (ps_ret (pe_and (pe_callB (kIsi K) (by rfl) B.isinstance (by decide +kernel) (pa_cons (pv 0) (pa_cons (pe_bltn (v := .ty "int") (by rfl) B.int (by decide +kernel) rfl) pa_nil))) (pe_one (pe_not (pe_callB (kIsi K) (by rfl) B.isinstance (by decide +kernel) (pa_cons (pv 0) (pa_cons (pe_bltn (v := .ty "bool") (by rfl) B.bool (by decide +kernel) rfl) pa_nil)))))))), ?_⟩
  refine st0 [some v] rfl ?_
  walk_at "go"
  refine rd_splitB (fun c => ?_) (fun c => ?_)
  · walk_at "go"
    have e : (!isT "bool" d) = isNum d := by cases d <;> simp_all [isT, isNum]
    rw [e]; exact q
  · have e : false = isNum d := by cases d <;> simp_all [isT, isNum]
    rw [e]; exact q
abbrev s_is_between : Stmt := top 14
theorem sc_is_between : FnScope ["thing", "least", "most"] ["thing", "least", "most"] (defScope s_is_between) := ⟨rfl, rfl, rfl, by decide +kernel, rfl, by decide +kernel, by decide +kernel⟩
theorem has_is_between (O : OwnF K mg "is_between" s_is_between) (h_is_number : HasF P w K mg base CX0 1 "is_number" ["thing"] (spNum K)) : HasF P w K mg base CX0 2 "is_between" ["thing", "least", "most"] (spBtw K) := by
  refine has0 O sc_is_between (fun _ _ _ _ _ _ us hl => match us, hl with | [_, _, _], _ => rfl) (fun vs H Q E h => ?_) (fun f cdv A outer s_ H vs Q E hr h => ?_)
  · obtain ⟨v, d, lo, hi, rfl, _⟩ := h
    rfl
  obtain ⟨v, d, lo, hi, rfl, r, q⟩ := h
  refine ⟨_, (pss_one (ps_ret (pe_and (pe_callH h_is_number (hr.mono (by first | decide | omega)) (by rfl) pass0 (pa_cons (pv 0) pa_nil)) (pe_one (pe_chain leU leU (pv 1) (pv 0) (pv 2)))))), ?_⟩
  refine st0 [some v, some (.int lo), some (.int hi)] rfl ?_
  walk_at "go"
  refine use_num r ?_
  walk_at "go"
  cases r with
  | int i =>
    refine iteT ?_
    walk_at "go"
    refine rd_split (fun c => ?_) (fun c => ?_)
    · walk_at "go"
      have e : decide (i ≤ hi) = isBtw (.int i) lo hi := by simp [isBtw, c]
      rw [e]; exact q
    · have e : false = isBtw (.int i) lo hi := by simp [isBtw, c]
      rw [e]; exact q
  | non => exact iteF q
  | bl b => exact iteF q
  | str z => exact iteF q
  | tup _ _ => exact iteF q
abbrev s_are_row_numbers : Stmt := top 15
theorem sc_are_row_numbers : FnScope ["things", "thing"] ["things"] (defScope s_are_row_numbers) := ⟨rfl, rfl, rfl, by decide +kernel, rfl, by decide +kernel, by decide +kernel⟩
theorem has_are_row_numbers (O : OwnF K mg "are_row_numbers" s_are_row_numbers) (B : Bl mg) (C : Cst mg) (h_is_between : HasF P w K mg base CX0 2 "is_between" ["thing", "least", "most"] (spBtw K)) : HasF P w K mg base CX0 3 "are_row_numbers" ["things"] (spAsks K rowNums) := by
  refine has0 O sc_are_row_numbers (fun _ _ _ _ _ _ us hl => match us, hl with | [_], _ => rfl) (fun vs H Q E h => ?_) (fun f cdv A outer s_ H vs Q E hr h => ?_)
  · obtain ⟨a, xs, ds, rfl, _⟩ := h
    rfl
  obtain ⟨a, xs, ds, rfl, hs, hR, hl, hd, q⟩ := h
  refine ⟨_, (pss_one (ps_ret (pe_callB (kAll K rfl) (by rfl) B.all (by decide +kernel) (pa_cons (pe_lc (own := [("thing", 1)]) (g := gName 1) (tt := tYes) rfl sc_are_row_numbers.nd (pi_tupK K (pv 0)) (blkOk_by (own := [("thing", 1)]) (N := ["things", "thing"]) (sc := defScope s_are_row_numbers) (by decide +kernel)) (fun _ _ _ _ _ => (pg_name (i := 1) sc_are_row_numbers.nd rfl (by first | exact Or.inl rfl | exact Or.inr rfl))) (fun _ _ _ _ _ => pts_nil) (fun _ _ _ _ _ => (pe_callH h_is_between (hr.mono (by first | decide | omega)) (by rfl) pass0 (pa_cons (pv 1) (pa_cons pe_int (pa_cons (pe_op subU (pe_globI C.MODULUS (by rfl)) pe_int) pa_nil)))))) pa_nil)))), ?_⟩
  refine st0 [some (.ref a), none] rfl ?_
  walk_at "go"
  intro D hD
  refine lc_tup (K := K) (a := a) (xs := xs) (fun i H' => ∃ bs : List Bool, H' D = some (.lst (bs.map V.bl)) ∧ bs = (ds.take i).map (fun d => isBtw d 0 1000002) ∧ Same H H') ⟨[], upd_same, rfl, Same.upd_new (Same.refl H) hD⟩ ?_ ?_ ?_
  · rintro i H' hi ⟨bs, h1, h2, h3⟩
    exact Ext.of_same h3 a xs hs
  · rintro i x H' hx ⟨bs, h1, h2, h3⟩
    obtain ⟨d, e1, e2⟩ := hR.getV hx
    walk_at "go"
    refine ⟨rfl, ?_⟩
    walk_at "go"
    refine use_btw (e2.mono (Ext.of_same h3) d x) ?_
    refine ⟨bs.map V.bl, h1, ?_, bs ++ [isBtw d 0 (1000003 - 1)], ?_, ?_, Same.upd_new h3 hD⟩
    · rw [List.length_map, h2, List.length_map, List.length_take]
      exact ls (by omega)
    · rw [upd_same, List.map_append] <;> rfl
    · rw [List.take_add_one, e1, List.map_append, h2] <;> rfl
  · rintro H' ⟨bs, h1, h2, h3⟩
    walk_at "go"
    refine u_all (SqL.of h1) ?_
    have e : bs.all id = rowNums ds := by
      rw [h2, hR.length, List.take_length, all_map] <;> rfl
    rw [e]
    exact q _ h3
end
end Mine

/-! ### P2 -/
set_option maxHeartbeats 1000000
namespace Mine
open PySem PySem.Spec L2
local macro_rules | `(tactic| walk_at "st") => `(tactic| first
  | ((with_reducible apply rd_var); exact rfl)
  | (with_reducible apply rd_c)
  | (with_reducible apply rd_seq)
  | (with_reducible apply rd_asg)
  | (with_reducible apply rd_gname)
  | (with_reducible apply rd_op)
  | (with_reducible apply rd_cb)
  | (with_reducible apply rd_cons)
  | (with_reducible apply rd_nil)
  | (with_reducible apply rd_if)
  | (with_reducible apply rd_test)
  | (with_reducible apply rd_bl)
  | (with_reducible apply rd_retE)
  | (with_reducible apply rd_ret)
  | (with_reducible apply rd_call)
  | (with_reducible apply rd_tup)
  | (with_reducible apply rd_lst)
  | (with_reducible apply rd_drop)
  | (with_reducible apply rd_next)
  | (with_reducible apply rd_ife)
  | (with_reducible apply rd_gsub)
  | (with_reducible apply rd_par)
  | (with_reducible apply rd_par_end)
  | (with_reducible apply rd_un)
  | (with_reducible apply rd_and)
  | (with_reducible apply rd_or)
  | (with_reducible apply rd_not)
  | (with_reducible apply rd_andV)
  | (with_reducible apply rd_orV)
  | (with_reducible apply rd_notV)
  | (with_reducible apply rd_chain)
  | (with_reducible apply rd_tB)
  | (with_reducible apply rd_brk)
  | (with_reducible apply rd_ct)
  | (with_reducible apply u_add)
  | (with_reducible apply u_sub)
  | (with_reducible apply u_lt)
  | (with_reducible apply u_le)
  | (with_reducible apply u_gt)
  | (with_reducible apply u_ge)
  | (with_reducible apply u_eqI)
  | (with_reducible apply u_eqS)
  | (with_reducible apply u_neI)
  | (with_reducible apply u_int)
  | (with_reducible apply u_intB)
  | (with_reducible apply u_max)
  | (with_reducible apply u_min)
  | (with_reducible apply u_neg)
  | ((with_reducible apply u_mod); focus first | assumption | decide | omega)
  | ((with_reducible apply u_div); focus first | decide | omega | (constructor <;> first | assumption | omega))
  | ((with_reducible apply u_mul); focus first | exact Or.inl (by omega) | exact Or.inr (by omega) | exact Or.inl (by decide) | exact Or.inr (by decide))
  | ((with_reducible apply u_ixL); (focus (first | assumption | exact SqL.of (by assumption) | exact SqL.of upd_same)); exact rfl)
  | ((with_reducible apply u_lenL); focus (first | assumption | exact SqL.of (by assumption) | exact SqL.of upd_same))
  | ((with_reducible apply u_lenT); focus (first | assumption | exact SqT.of (by assumption) | exact SqT.of upd_same))
  | ((with_reducible apply u_setL); (focus (first | assumption | exact upd_same)); exact rfl)
  | (with_reducible apply rd_chain3)
  | (with_reducible apply rd_tru)
  | (with_reducible apply rd_truB)
  | ((with_reducible apply rd_truL); focus (first | assumption | exact SqL.of (by assumption) | exact SqL.of upd_same))
  | (with_reducible apply rd_bm)
  | (with_reducible apply rd_bm0)
  | ((with_reducible apply rd_tyL); focus (first | exact SqL.of (by assumption) | exact SqL.of upd_same))
  | (with_reducible apply u_min3)
  | (with_reducible apply rd_rev)
  | (with_reducible apply rd_iList)
  | (with_reducible apply rd_iTup)
  | (with_reducible apply rd_for)
  | (with_reducible apply rd_rng1)
  | (with_reducible apply rd_rng2)
  | ((with_reducible apply rd_rng1e); (focus omega); (focus omega))
  | ((with_reducible apply rd_rng2e); (focus omega))
  | (with_reducible apply rd_gcons)
  | (with_reducible apply rd_gnil)
  | (with_reducible apply rd_retN)
  | (with_reducible apply g_eqI)
  | (with_reducible apply g_eqS)
  | (with_reducible apply g_neI)
  | (with_reducible apply g_neS)
  | (with_reducible apply g_neB)
  | (with_reducible apply rd_xf)
  | (with_reducible apply rd_raiseE)
  | (with_reducible apply rd_callS)
  | (with_reducible apply u_inD)
  | (with_reducible apply u_notInD)
  | (with_reducible apply u_inS)
  | (with_reducible apply u_notInS)
  | (with_reducible apply rd_iSeq)
  | ((with_reducible apply rd_seqL); (focus first | assumption | exact SqL.of (by assumption) | exact SqL.of upd_same))
  | ((with_reducible apply rd_seqT); (focus first | assumption | exact SqT.of (by assumption) | exact SqT.of upd_same))
  | (with_reducible apply rd_istr)
  | (with_reducible apply rd_istrE)
  | ((with_reducible apply u_isi); (focus (first | exact Or.inl rfl | exact Or.inr (Or.inl rfl) | exact Or.inr (Or.inr (Or.inl rfl)) | exact Or.inr (Or.inr (Or.inr rfl)))); (focus first | assumption | exact Rp.int _ | exact Rp.str _))
  | ((with_reducible apply rd_itL); (focus first | assumption | exact SqL.of (by assumption) | exact SqL.of upd_same))
  | ((with_reducible apply rd_itT); (focus first | assumption | exact SqT.of (by assumption) | exact SqT.of upd_same))
  | (with_reducible apply rd_lc)
  | (with_reducible apply rd_yes)
  | ((with_reducible apply u_pow); (focus (exact ⟨by decide, by decide, by decide⟩)))
  | (with_reducible apply u_mul; focus exact Or.inr cm)
  | (with_reducible apply rd_par3)
  | (with_reducible apply rd_par3_end)
  | ((with_reducible apply rd_aug); exact rfl)
  | (with_reducible apply rd_ipI)
  | (with_reducible apply iteT)
  | (with_reducible apply iteF))
local macro_rules | `(tactic| walk_at "go") => `(tactic| repeat (walk_at "st"))
local macro_rules | `(tactic| walk_at "sp") => `(tactic| (first | refine rd_split (fun c => ?_) (fun c => ?_) | refine rd_splitN (fun c => ?_) (fun c => ?_) | refine rd_splitB (fun c => ?_) (fun c => ?_)))
local macro_rules | `(tactic| walk_at "nx") => `(tactic| repeat (first | (with_reducible apply iteF) | (with_reducible apply iteT) | (with_reducible apply rd_next)))

section
variable {P : Program} {w : World} {K : PySem.W.Frag} {mg : Str → Option Value} {base : Heap}
theorem z_len {z : Str} (h : z.length ≤ 1000) : z.length ≤ sizeLine := ll (by omega)
abbrev s_is_word : Stmt := top 16
theorem sc_is_word : FnScope ["thing", "sign"] ["thing"] (defScope s_is_word) := ⟨rfl, rfl, rfl, by decide +kernel, rfl, by decide +kernel, by decide +kernel⟩
theorem has_is_word (O : OwnF K mg "is_word" s_is_word) (B : Bl mg) (C : Cst mg) : HasF P w K mg base CX0 1 "is_word" ["thing"] (spAsk K isWord) := by
  refine has0 O sc_is_word (fun _ _ _ _ _ _ us hl => match us, hl with | [_], _ => rfl) (fun vs H Q E h => ?_) (fun f cdv A outer s_ H vs Q E hr h => ?_)
  · obtain ⟨v, d, rfl, _⟩ := h
    rfl
  obtain ⟨v, d, rfl, r, hd, q⟩ := h
  refine ⟨_, (pss_cons (ps_if (PW.pt (pw_or (pt_not (pt_val (pe_callB (kIsi K) (by rfl) B.isinstance (by decide +kernel) (pa_cons (pv 0) (pa_cons (pe_bltn (v := .ty "str") (by rfl) B.str (by decide +kernel) rfl) pa_nil))))) (pw_or1 (pt_not (pt_chain leU leU pe_int (pe_callB (kLen K) (by rfl) B.len (by decide +kernel) (pa_cons (pv 0) pa_nil)) (pe_globI C.LONGEST_WORD (by rfl))))))) (pss_one (ps_ret pe_bl)) pss_nil) (pss_one (ps_ret (pe_callB (kAll K rfl) (by rfl) B.all (by decide +kernel) (pa_cons (pe_lc (own := [("sign", 1)]) (g := gName 1) (tt := tYes) rfl sc_is_word.nd (pi_str (pv 0)) (blkOk_by (own := [("sign", 1)]) (N := ["thing", "sign"]) (sc := defScope s_is_word) (by decide +kernel)) (fun _ _ _ _ _ => (pg_name (i := 1) sc_is_word.nd rfl (by first | exact Or.inl rfl | exact Or.inr rfl))) (fun _ _ _ _ _ => pts_nil) (fun _ _ _ _ _ => (pe_cmpR (kIn K) (pv 1) (pe_globS C.LETTERS (by rfl)) (by rfl)))) pa_nil))))), ?_⟩
  refine st0 [some v, none] rfl ?_
  walk_at "go"
  cases r with
  | str z =>
    refine iteF ?_
    have hz : z.length ≤ 1000 := hd.1
    walk_at "go"
    refine u_lenS (z_len hz) ?_
    walk_at "go"
    refine rd_split (fun c1 => ?_) (fun c1 => ?_)
    rotate_left
    · walk_at "go"
      refine iteT ?_
      walk_at "go"
      have e : false = isWord (.str z) := by simp only [isWord, decide_eq_false c1, Bool.false_and]
      rw [e]; exact q _ (Same.refl _)
    walk_at "go"
    refine rd_splitN (fun c2 => ?_) (fun c2 => ?_)
    · walk_at "go"
      have e : false = isWord (.str z) := by simp only [isWord, decide_eq_false c2, Bool.and_false, Bool.false_and]
      rw [e]; exact q _ (Same.refl _)
    walk_at "go"
    intro D hD
    refine lcS (fun i H' => H' D = some (.lst (((z.cps.toList.take i).map fun c => decide (c ∈ Letters.cps.toList)).map V.bl)) ∧ Same H H') ⟨upd_same, Same.upd_new (Same.refl H) hD⟩ ?_ ?_
    · rintro i c H' hc ⟨h1, h3⟩
      walk_at "go"
      refine ⟨rfl, ?_⟩
      walk_at "go"
      refine ⟨_, h1, ?_, ?_, Same.upd_new h3 hD⟩
      · rw [List.length_map, List.length_map, List.length_take]
        have : z.cps.toList.length = z.length := (len_list z).symm
        exact ls (by omega)
      · have e1 : z.cps.toList[i]? = some c := by rw [Array.getElem?_toList]; exact hc
        rw [upd_same, List.take_add_one, e1, List.map_append, List.map_append] <;> rfl
    · rintro H' ⟨h1, h3⟩
      walk_at "go"
      refine u_all (SqL.of h1) ?_
      have e : ((z.cps.toList.take z.cps.size).map fun c => decide (c ∈ Letters.cps.toList)).all id = isWord (.str z) := by
        have e2 : z.cps.toList.take z.cps.size = z.cps.toList := by
          rw [List.take_of_length_le (by simp)]
        rw [e2, all_map]
        simp only [isWord, lowAll, decide_eq_true c1, decide_eq_true c2, Bool.true_and]
      rw [e]
      exact q _ h3
  | non => refine iteT ?_; walk_at "go"; exact q _ (Same.refl _)
  | bl b => refine iteT ?_; walk_at "go"; exact q _ (Same.refl _)
  | int i => refine iteT ?_; walk_at "go"; exact q _ (Same.refl _)
  | tup _ _ => refine iteT ?_; walk_at "go"; exact q _ (Same.refl _)
abbrev s_tells_row : Stmt := top 17
theorem sc_tells_row : FnScope ["told"] ["told"] (defScope s_tells_row) := ⟨rfl, rfl, rfl, by decide +kernel, rfl, by decide +kernel, by decide +kernel⟩
theorem has_tells_row (O : OwnF K mg "tells_row" s_tells_row) (B : Bl mg) (C : Cst mg) (h_are_row_numbers : HasF P w K mg base CX0 3 "are_row_numbers" ["things"] (spAsks K rowNums)) : HasF P w K mg base CX0 4 "tells_row" ["told"] (spAsks K tellsRow) := by
  refine has0 O sc_tells_row (fun _ _ _ _ _ _ us hl => match us, hl with | [_], _ => rfl) (fun vs H Q E h => ?_) (fun f cdv A outer s_ H vs Q E hr h => ?_)
  · obtain ⟨a, xs, ds, rfl, _⟩ := h
    rfl
  obtain ⟨a, xs, ds, rfl, hs, hR, hl, hd, q⟩ := h
  have el := hR.length
  refine ⟨_, (pss_one (ps_ret (pe_and (pe_chain leU leU pe_int (pe_callB (kLen K) (by rfl) B.len (by decide +kernel) (pa_cons (pv 0) pa_nil)) (pe_globI C.LONGEST_ROW (by rfl))) (pe_one (pe_callH h_are_row_numbers (hr.mono (by first | decide | omega)) (by rfl) pass0 (pa_cons (pv 0) pa_nil)))))), ?_⟩
  refine st0 [some (.ref a)] rfl ?_
  walk_at "go"
  refine rd_split (fun c1 => ?_) (fun c1 => ?_)
  · walk_at "go"
    refine rd_split (fun c2 => ?_) (fun c2 => ?_)
    · walk_at "go"
      refine use_asks hs hR hl hd fun H' s' => ?_
      have e : rowNums ds = tellsRow ds := by
        rw [el] at c1 c2
        simp only [tellsRow, decide_eq_true c1, decide_eq_true c2, Bool.true_and]
      rw [e]
      exact q _ s'
    · rw [el] at c2
      have e : false = tellsRow ds := by simp only [tellsRow, decide_eq_false c2, Bool.and_false, Bool.false_and]
      rw [e]; exact q _ (Same.refl _)
  · rw [el] at c1
    walk_at "go"
    have e : false = tellsRow ds := by simp only [tellsRow, decide_eq_false c1, Bool.false_and]
    rw [e]; exact q _ (Same.refl _)
abbrev s_tells_input : Stmt := top 18
theorem sc_tells_input : FnScope ["told"] ["told"] (defScope s_tells_input) := ⟨rfl, rfl, rfl, by decide +kernel, rfl, by decide +kernel, by decide +kernel⟩
theorem has_tells_input (O : OwnF K mg "tells_input" s_tells_input) (B : Bl mg) (C : Cst mg) (h_is_word : HasF P w K mg base CX0 1 "is_word" ["thing"] (spAsk K isWord)) (h_is_between : HasF P w K mg base CX0 2 "is_between" ["thing", "least", "most"] (spBtw K)) : HasF P w K mg base CX0 4 "tells_input" ["told"] (spAsks K tellsInput) := by
  refine has0 O sc_tells_input (fun _ _ _ _ _ _ us hl => match us, hl with | [_], _ => rfl) (fun vs H Q E h => ?_) (fun f cdv A outer s_ H vs Q E hr h => ?_)
  · obtain ⟨a, xs, ds, rfl, _⟩ := h
    rfl
  obtain ⟨a, xs, ds, rfl, hs, hR, hl, hd, q⟩ := h
  refine ⟨_, (pss_one (ps_ret (pe_and (pe_cmpR (kEqG K (hU hr)) (pe_callB (kLen K) (by rfl) B.len (by decide +kernel) (pa_cons (pv 0) pa_nil)) pe_int (nomark _)) (pe_and (pe_callH h_is_word (hr.mono (by first | decide | omega)) (by rfl) pass0 (pa_cons (pe_ix (kIx K) (pv 0) pe_int (fun _ _ => rfl)) pa_nil)) (pe_one (pe_callH h_is_between (hr.mono (by first | decide | omega)) (by rfl) pass0 (pa_cons (pe_ix (kIx K) (pv 0) pe_int (fun _ _ => rfl)) (pa_cons pe_int (pa_cons (pe_globI C.LONGEST_ROW (by rfl)) pa_nil))))))))), ?_⟩
  refine st0 [some (.ref a)] rfl ?_
  walk_at "go"
  refine rd_split (fun c => ?_) (fun c => ?_)
  · obtain ⟨x, y, d, e, rfl, rfl, r1, r2⟩ := hR.pair c
    walk_at "go"
    refine u_ixT hs rfl ?_
    walk_at "go"
    refine use_ask r1 hd.1 fun H' s' => ?_
    walk_at "go"
    refine rd_splitB (fun c1 => ?_) (fun c1 => ?_)
    · walk_at "go"
      refine u_ixT (Ext.of_same s' _ _ hs) rfl ?_
      walk_at "go"
      refine use_btw (r2.mono (Ext.of_same s') _ _) ?_
      have ee : isBtw e 1 64 = tellsInput [d, e] := by simp only [tellsInput, c1, Bool.true_and]
      rw [ee]; exact q _ s'
    · have ee : false = tellsInput [d, e] := by simp only [tellsInput, c1, Bool.false_and]
      rw [ee]; exact q _ s'
  · have ee : false = tellsInput ds := by
      rw [hR.length] at c
      match ds, c with
      | [], _ => rfl
      | [_], _ => rfl
      | [_, _], c => exact absurd rfl c
      | _ :: _ :: _ :: _, _ => rfl
    rw [ee]; exact q _ (Same.refl _)
abbrev s_tells_stretch : Stmt := top 19
theorem sc_tells_stretch : FnScope ["told"] ["told"] (defScope s_tells_stretch) := ⟨rfl, rfl, rfl, by decide +kernel, rfl, by decide +kernel, by decide +kernel⟩
theorem has_tells_stretch (O : OwnF K mg "tells_stretch" s_tells_stretch) (B : Bl mg) (C : Cst mg) (h_is_between : HasF P w K mg base CX0 2 "is_between" ["thing", "least", "most"] (spBtw K)) : HasF P w K mg base CX0 4 "tells_stretch" ["told"] (spAsks K tellsStretch) := by
  refine has0 O sc_tells_stretch (fun _ _ _ _ _ _ us hl => match us, hl with | [_], _ => rfl) (fun vs H Q E h => ?_) (fun f cdv A outer s_ H vs Q E hr h => ?_)
  · obtain ⟨a, xs, ds, rfl, _⟩ := h
    rfl
  obtain ⟨a, xs, ds, rfl, hs, hR, hl, hd, q⟩ := h
  refine ⟨_, (pss_cons (ps_if (PW.pt (pw_or (pt_cmpR (kNeG K (hU hr)) (pe_callB (kLen K) (by rfl) B.len (by decide +kernel) (pa_cons (pv 0) pa_nil)) pe_int (nomark _)) (pw_or1 (pt_not (pt_truthK K (pe_callH h_is_between (hr.mono (by first | decide | omega)) (by rfl) pass0 (pa_cons (pe_ix (kIx K) (pv 0) pe_int (fun _ _ => rfl)) (pa_cons pe_int (pa_cons (pe_globI C.LONGEST_ROW (by rfl)) pa_nil)))) (by intro _; rfl)))))) (pss_one (ps_ret pe_bl)) pss_nil) (pss_one (ps_ret (pe_callH h_is_between (hr.mono (by first | decide | omega)) (by rfl) pass0 (pa_cons (pe_ix (kIx K) (pv 0) pe_int (fun _ _ => rfl)) (pa_cons pe_int (pa_cons (pe_op subU (pe_ix (kIx K) (pv 0) pe_int (fun _ _ => rfl)) pe_int) pa_nil))))))), ?_⟩
  refine st0 [some (.ref a)] rfl ?_
  walk_at "go"
  refine rd_splitN (fun c => ?_) (fun c => ?_)
  · walk_at "go"
    have ee : false = tellsStretch ds := by
      rw [hR.length] at c
      match ds, c with
      | [], _ => rfl
      | [_], _ => rfl
      | [_, _], c => exact absurd rfl c
      | _ :: y :: _ :: _, _ => cases y <;> rfl
    rw [ee]; exact q _ (Same.refl _)
  · obtain ⟨x, y, d, e, rfl, rfl, r1, r2⟩ := hR.pair c
    walk_at "go"
    refine u_ixT hs rfl ?_
    walk_at "go"
    refine use_btw r2 ?_
    walk_at "go"
    cases r2 with
    | int j =>
      have nb : ∀ b : Bool, (b = true → Q (.bl (isBtw d 0 (j - 1))) H) → (b = false → Q (.bl false) H) → True := fun _ _ _ => trivial
      cases hb : isBtw (.int j) 0 64 with
      | true =>
        refine iteF ?_
        walk_at "go"
        refine u_ixT hs rfl ?_
        walk_at "go"
        refine u_ixT hs rfl ?_
        walk_at "go"
        refine use_btw r1 ?_
        have ee : isBtw d 0 (j - 1) = tellsStretch [d, .int j] := by simp only [tellsStretch, hb, Bool.true_and]
        rw [ee]; exact q _ (Same.refl _)
      | false =>
        refine iteT ?_
        walk_at "go"
        have ee : false = tellsStretch [d, .int j] := by simp only [tellsStretch, hb, Bool.false_and]
        rw [ee]; exact q _ (Same.refl _)
    | non => refine iteT ?_; walk_at "go"; exact q _ (Same.refl _)
    | bl b => refine iteT ?_; walk_at "go"; exact q _ (Same.refl _)
    | str i => refine iteT ?_; walk_at "go"; exact q _ (Same.refl _)
    | tup _ _ => refine iteT ?_; walk_at "go"; exact q _ (Same.refl _)
abbrev s_tells_times : Stmt := top 20
theorem sc_tells_times : FnScope ["told"] ["told"] (defScope s_tells_times) := ⟨rfl, rfl, rfl, by decide +kernel, rfl, by decide +kernel, by decide +kernel⟩
theorem has_tells_times (O : OwnF K mg "tells_times" s_tells_times) (B : Bl mg) (C : Cst mg) (h_is_between : HasF P w K mg base CX0 2 "is_between" ["thing", "least", "most"] (spBtw K)) : HasF P w K mg base CX0 4 "tells_times" ["told"] (spAsks K tellsTimes) := by
  refine has0 O sc_tells_times (fun _ _ _ _ _ _ us hl => match us, hl with | [_], _ => rfl) (fun vs H Q E h => ?_) (fun f cdv A outer s_ H vs Q E hr h => ?_)
  · obtain ⟨a, xs, ds, rfl, _⟩ := h
    rfl
  obtain ⟨a, xs, ds, rfl, hs, hR, hl, hd, q⟩ := h
  refine ⟨_, (pss_one (ps_ret (pe_and (pe_cmpR (kEqG K (hU hr)) (pe_callB (kLen K) (by rfl) B.len (by decide +kernel) (pa_cons (pv 0) pa_nil)) pe_int (nomark _)) (pe_one (pe_callH h_is_between (hr.mono (by first | decide | omega)) (by rfl) pass0 (pa_cons (pe_ix (kIx K) (pv 0) pe_int (fun _ _ => rfl)) (pa_cons pe_int (pa_cons (pe_globI C.MOST_TIMES (by rfl)) pa_nil)))))))), ?_⟩
  refine st0 [some (.ref a)] rfl ?_
  walk_at "go"
  refine rd_split (fun c => ?_) (fun c => ?_)
  · obtain ⟨x, d, rfl, rfl, r1⟩ := hR.only c
    walk_at "go"
    refine u_ixT hs rfl ?_
    walk_at "go"
    exact use_btw r1 (q _ (Same.refl _))
  · have ee : false = tellsTimes ds := by
      rw [hR.length] at c
      match ds, c with
      | [], _ => rfl
      | [_], c => exact absurd rfl c
      | _ :: _ :: _, _ => rfl
    rw [ee]; exact q _ (Same.refl _)
abbrev s_tells_room : Stmt := top 21
theorem sc_tells_room : FnScope ["told"] ["told"] (defScope s_tells_room) := ⟨rfl, rfl, rfl, by decide +kernel, rfl, by decide +kernel, by decide +kernel⟩
theorem has_tells_room (O : OwnF K mg "tells_room" s_tells_room) (B : Bl mg) (C : Cst mg) (h_is_between : HasF P w K mg base CX0 2 "is_between" ["thing", "least", "most"] (spBtw K)) : HasF P w K mg base CX0 4 "tells_room" ["told"] (spAsks K tellsRoom) := by
  refine has0 O sc_tells_room (fun _ _ _ _ _ _ us hl => match us, hl with | [_], _ => rfl) (fun vs H Q E h => ?_) (fun f cdv A outer s_ H vs Q E hr h => ?_)
  · obtain ⟨a, xs, ds, rfl, _⟩ := h
    rfl
  obtain ⟨a, xs, ds, rfl, hs, hR, hl, hd, q⟩ := h
  refine ⟨_, (pss_one (ps_ret (pe_and (pe_cmpR (kEqG K (hU hr)) (pe_callB (kLen K) (by rfl) B.len (by decide +kernel) (pa_cons (pv 0) pa_nil)) pe_int (nomark _)) (pe_one (pe_callH h_is_between (hr.mono (by first | decide | omega)) (by rfl) pass0 (pa_cons (pe_ix (kIx K) (pv 0) pe_int (fun _ _ => rfl)) (pa_cons pe_int (pa_cons (pe_globI C.LONGEST_ROW (by rfl)) pa_nil)))))))), ?_⟩
  refine st0 [some (.ref a)] rfl ?_
  walk_at "go"
  refine rd_split (fun c => ?_) (fun c => ?_)
  · obtain ⟨x, d, rfl, rfl, r1⟩ := hR.only c
    walk_at "go"
    refine u_ixT hs rfl ?_
    walk_at "go"
    exact use_btw r1 (q _ (Same.refl _))
  · have ee : false = tellsRoom ds := by
      rw [hR.length] at c
      match ds, c with
      | [], _ => rfl
      | [_], c => exact absurd rfl c
      | _ :: _ :: _, _ => rfl
    rw [ee]; exact q _ (Same.refl _)
end
end Mine

/-! ### P3 -/
set_option maxHeartbeats 1000000
namespace Mine
open PySem PySem.Spec L2
local macro_rules | `(tactic| walk_at "st") => `(tactic| first
  | ((with_reducible apply rd_var); exact rfl)
  | (with_reducible apply rd_c)
  | (with_reducible apply rd_seq)
  | (with_reducible apply rd_asg)
  | (with_reducible apply rd_gname)
  | (with_reducible apply rd_op)
  | (with_reducible apply rd_cb)
  | (with_reducible apply rd_cons)
  | (with_reducible apply rd_nil)
  | (with_reducible apply rd_if)
  | (with_reducible apply rd_test)
  | (with_reducible apply rd_bl)
  | (with_reducible apply rd_retE)
  | (with_reducible apply rd_ret)
  | (with_reducible apply rd_call)
  | (with_reducible apply rd_tup)
  | (with_reducible apply rd_lst)
  | (with_reducible apply rd_drop)
  | (with_reducible apply rd_next)
  | (with_reducible apply rd_ife)
  | (with_reducible apply rd_gsub)
  | (with_reducible apply rd_par)
  | (with_reducible apply rd_par_end)
  | (with_reducible apply rd_un)
  | (with_reducible apply rd_and)
  | (with_reducible apply rd_or)
  | (with_reducible apply rd_not)
  | (with_reducible apply rd_andV)
  | (with_reducible apply rd_orV)
  | (with_reducible apply rd_notV)
  | (with_reducible apply rd_chain)
  | (with_reducible apply rd_tB)
  | (with_reducible apply rd_brk)
  | (with_reducible apply rd_ct)
  | (with_reducible apply u_add)
  | (with_reducible apply u_sub)
  | (with_reducible apply u_lt)
  | (with_reducible apply u_le)
  | (with_reducible apply u_gt)
  | (with_reducible apply u_ge)
  | (with_reducible apply u_eqI)
  | (with_reducible apply u_eqS)
  | (with_reducible apply u_neI)
  | (with_reducible apply u_int)
  | (with_reducible apply u_intB)
  | (with_reducible apply u_max)
  | (with_reducible apply u_min)
  | (with_reducible apply u_neg)
  | ((with_reducible apply u_mod); focus first | assumption | decide | omega)
  | ((with_reducible apply u_div); focus first | decide | omega | (constructor <;> first | assumption | omega))
  | ((with_reducible apply u_mul); focus first | exact Or.inl (by omega) | exact Or.inr (by omega) | exact Or.inl (by decide) | exact Or.inr (by decide))
  | ((with_reducible apply u_ixL); (focus (first | assumption | exact SqL.of (by assumption) | exact SqL.of upd_same)); exact rfl)
  | ((with_reducible apply u_lenL); focus (first | assumption | exact SqL.of (by assumption) | exact SqL.of upd_same))
  | ((with_reducible apply u_lenT); focus (first | assumption | exact SqT.of (by assumption) | exact SqT.of upd_same))
  | ((with_reducible apply u_setL); (focus (first | assumption | exact upd_same)); exact rfl)
  | (with_reducible apply rd_chain3)
  | (with_reducible apply rd_tru)
  | (with_reducible apply rd_truB)
  | ((with_reducible apply rd_truL); focus (first | assumption | exact SqL.of (by assumption) | exact SqL.of upd_same))
  | (with_reducible apply rd_bm)
  | (with_reducible apply rd_bm0)
  | ((with_reducible apply rd_tyL); focus (first | exact SqL.of (by assumption) | exact SqL.of upd_same))
  | (with_reducible apply u_min3)
  | (with_reducible apply rd_rev)
  | (with_reducible apply rd_iList)
  | (with_reducible apply rd_iTup)
  | (with_reducible apply rd_for)
  | (with_reducible apply rd_rng1)
  | (with_reducible apply rd_rng2)
  | ((with_reducible apply rd_rng1e); (focus omega); (focus omega))
  | ((with_reducible apply rd_rng2e); (focus omega))
  | (with_reducible apply rd_gcons)
  | (with_reducible apply rd_gnil)
  | (with_reducible apply rd_retN)
  | (with_reducible apply g_eqI)
  | (with_reducible apply g_eqS)
  | (with_reducible apply g_neI)
  | (with_reducible apply g_neS)
  | (with_reducible apply g_neB)
  | (with_reducible apply rd_xf)
  | (with_reducible apply rd_raiseE)
  | (with_reducible apply rd_callS)
  | (with_reducible apply u_inD)
  | (with_reducible apply u_notInD)
  | (with_reducible apply u_inS)
  | (with_reducible apply u_notInS)
  | (with_reducible apply rd_iSeq)
  | ((with_reducible apply rd_seqL); (focus first | assumption | exact SqL.of (by assumption) | exact SqL.of upd_same))
  | ((with_reducible apply rd_seqT); (focus first | assumption | exact SqT.of (by assumption) | exact SqT.of upd_same))
  | (with_reducible apply rd_istr)
  | (with_reducible apply rd_istrE)
  | ((with_reducible apply u_isi); (focus (first | exact Or.inl rfl | exact Or.inr (Or.inl rfl) | exact Or.inr (Or.inr (Or.inl rfl)) | exact Or.inr (Or.inr (Or.inr rfl)))); (focus first | assumption | exact Rp.int _ | exact Rp.str _))
  | ((with_reducible apply rd_itL); (focus first | assumption | exact SqL.of (by assumption) | exact SqL.of upd_same))
  | ((with_reducible apply rd_itT); (focus first | assumption | exact SqT.of (by assumption) | exact SqT.of upd_same))
  | (with_reducible apply rd_lc)
  | (with_reducible apply rd_yes)
  | ((with_reducible apply u_pow); (focus (exact ⟨by decide, by decide, by decide⟩)))
  | (with_reducible apply u_mul; focus exact Or.inr cm)
  | (with_reducible apply rd_par3)
  | (with_reducible apply rd_par3_end)
  | ((with_reducible apply rd_aug); exact rfl)
  | (with_reducible apply rd_ipI)
  | (with_reducible apply iteT)
  | (with_reducible apply iteF))
local macro_rules | `(tactic| walk_at "go") => `(tactic| repeat (walk_at "st"))
local macro_rules | `(tactic| walk_at "sp") => `(tactic| (first | refine rd_split (fun c => ?_) (fun c => ?_) | refine rd_splitN (fun c => ?_) (fun c => ?_) | refine rd_splitB (fun c => ?_) (fun c => ?_)))
local macro_rules | `(tactic| walk_at "nx") => `(tactic| repeat (first | (with_reducible apply iteF) | (with_reducible apply iteT) | (with_reducible apply rd_next)))

section
variable {P : Program} {w : World} {K : PySem.W.Frag} {mg : Str → Option Value} {base : Heap}
def spFits (K : PySem.W.Frag) : Sp := fun vs H Q _ => ∃ (z : Str) (a : Addr) (xs : List V) (ds : List PyData), vs = [.str z, .ref a] ∧ SqT K H a xs ∧ Rps K H xs ds ∧ ds.length ≤ 1000 ∧ dats ds ∧ ∀ H', Same H H' → Q (.bl (toldFits z ds)) H'
theorem use_fits {K : PySem.W.Frag} {z : Str} {a : Addr} {xs : List V} {ds : List PyData} {H : Hp} {Q : VK} {E : XK} (s : SqT K H a xs) (r : Rps K H xs ds) (l : ds.length ≤ 1000) (hd : dats ds) (q : ∀ H', Same H H' → Q (.bl (toldFits z ds)) H') : spFits K [.str z, .ref a] H Q E := ⟨z, a, xs, ds, rfl, s, r, l, hd, q⟩
def spPFit : Sp := fun vs H Q _ => ∃ (z : Str) (n lo hi : Int), vs = [.str z, .int n] ∧ arity z = some (lo, hi) ∧ Q (.bl (partsFit z n)) H
/-- the module's two tables -/
structure PartsTab (w : World) (K : PySem.W.Frag) (mg : Str → Option Value) (a : Addr) (g : Str → Option Value) : Prop where
  tab : Tab w K mg "PARTS" a g
  no : ∀ z, arity z = none → g z = none
  yes : ∀ z lo hi, arity z = some (lo, hi) → ∃ b, g z = some (.ref b) ∧ ∀ H, SqT K H b [.int lo, .int hi]
structure TellsTab (P : Program) (w : World) (K : PySem.W.Frag) (mg : Str → Option Value) (base : Heap) (a : Addr) (g : Str → Option Value) : Prop where
  tab : Tab w K mg "TELLS" a g
  no : ∀ z, asks z = none → g z = none
  yes : ∀ z f, asks z = some f → ∃ b, g z = some (.ref b) ∧ Held P w K mg base 4 b (spAsks K f)
abbrev s_told_fits : Stmt := top 23
theorem sc_told_fits : FnScope ["op", "told", "fits"] ["op", "told"] (defScope s_told_fits) := ⟨rfl, rfl, rfl, by decide +kernel, rfl, by decide +kernel, by decide +kernel⟩
theorem has_told_fits {aP aT : Addr} {gP gT : Str → Option Value} (O : OwnF K mg "told_fits" s_told_fits) (B : Bl mg) (TP : PartsTab w K mg aP gP) (TT : TellsTab P w K mg base aT gT) : HasF P w K mg base CX0 5 "told_fits" ["op", "told"] (spFits K) := by
  refine has0 O sc_told_fits (fun _ _ _ _ _ _ us hl => match us, hl with | [_, _], _ => rfl) (fun vs H Q E h => ?_) (fun f cdv A outer s_ H vs Q E hr h => ?_)
  · obtain ⟨z, a, xs, ds, rfl, _⟩ := h
    rfl
  obtain ⟨z, a, xs, ds, rfl, hs, hR, hl, hd, q⟩ := h
  have T_PARTS := TP.tab
  have T_TELLS := TT.tab
  refine ⟨_, (pss_cons (ps_if (pt_cmpR (op_notInD T_PARTS) (pv 0) (pe_globR T_PARTS.m (by rfl)) (by rfl)) (pss_one (ps_ret pe_bl)) pss_nil) (pss_cons (ps_if (pt_cmpR (op_notInD T_TELLS) (pv 0) (pe_globR T_TELLS.m (by rfl)) (by rfl)) (pss_one (ps_ret (pe_cmpR (kEqG K (hU hr)) (pe_callB (kLen K) (by rfl) B.len (by decide +kernel) (pa_cons (pv 1) pa_nil)) pe_int (nomark _)))) pss_nil) (pss_cons (ps_set (i := 2) sc_told_fits.nd rfl (by first | exact Or.inl rfl | exact Or.inr rfl) (pe_ix (ix_tab T_TELLS) (pe_globR T_TELLS.m (by rfl)) (pv 0) (fun _ _ => rfl))) (pss_one (ps_ret (pe_callV (P := P) (w := w) (K := K) (mg := mg) (base := base) (k := 4) (i := 2) rfl rfl rfl rfl rfl (hr.mono (by decide)) rfl (Or.inl rfl) (pa_cons (pv 1) pa_nil))))))), ?_⟩
  refine st0 [some (.str z), some (.ref a), none] rfl ?_
  walk_at "go"
  cases ea : arity z with
  | none =>
    rw [TP.no z ea]
    refine iteT ?_
    walk_at "go"
    have e : false = toldFits z ds := by simp only [toldFits, ea]
    rw [e]; exact q _ (Same.refl _)
  | some p =>
    obtain ⟨b, eb, _⟩ := TP.yes z p.1 p.2 ea
    rw [eb]
    refine iteF ?_
    walk_at "go"
    cases ef : asks z with
    | none =>
      rw [TT.no z ef]
      refine iteT ?_
      walk_at "go"
      have e : decide ((xs.length : Int) = 0) = toldFits z ds := by simp only [toldFits, ea, ef, hR.length]
      rw [e]; exact q _ (Same.refl _)
    | some f =>
      obtain ⟨c, ec, hH⟩ := TT.yes z f ef
      rw [ec]
      refine iteF ?_
      walk_at "go"
      refine u_ixTab ec (show RelV (.ref c) (.ref c) from rfl) ?_
      walk_at "go"
      refine rd_callV rfl hH ?_
      walk_at "go"
      refine use_asks hs hR hl hd fun H' s' => ?_
      have e : f ds = toldFits z ds := by simp only [toldFits, ea, ef]
      rw [e]; exact q _ s'
abbrev s_parts_fit : Stmt := top 24
theorem sc_parts_fit : FnScope ["op", "many", "least", "most"] ["op", "many"] (defScope s_parts_fit) := ⟨rfl, rfl, rfl, by decide +kernel, rfl, by decide +kernel, by decide +kernel⟩
theorem has_parts_fit {aP : Addr} {gP : Str → Option Value} (O : OwnF K mg "parts_fit" s_parts_fit) (TP : PartsTab w K mg aP gP) : HasF P w K mg base CX0 1 "parts_fit" ["op", "many"] spPFit := by
  refine has0 O sc_parts_fit (fun _ _ _ _ _ _ us hl => match us, hl with | [_, _], _ => rfl) (fun vs H Q E h => ?_) (fun f cdv A outer s_ H vs Q E hr h => ?_)
  · obtain ⟨z, n, lo, hi, rfl, _⟩ := h
    rfl
  obtain ⟨z, n, lo, hi, rfl, ea, q⟩ := h
  have T_PARTS := TP.tab
  refine ⟨_, (pss_cons (ps_asg (pe_ix (ix_tab T_PARTS) (pe_globR T_PARTS.m (by rfl)) (pv 0) (fun _ _ => rfl)) (pg_tupK (n := 2) K rfl (pgs_cons (pg_name (i := 2) sc_parts_fit.nd rfl (by first | exact Or.inl rfl | exact Or.inr rfl)) (pgs_cons (pg_name (i := 3) sc_parts_fit.nd rfl (by first | exact Or.inl rfl | exact Or.inr rfl)) pgs_nil)))) (pss_one (ps_ret (pe_chain leU leU (pv 2) (pv 1) (pv 3))))), ?_⟩
  refine st0 [some (.str z), some (.int n), none, none] rfl ?_
  obtain ⟨b, eb, hb⟩ := TP.yes z lo hi ea
  walk_at "go"
  refine u_ixTab eb (show RelV (.ref b) (.ref b) from rfl) ?_
  refine rd_gtup (hb H) rfl ?_
  walk_at "go"
  have e : partsFit z n = (decide (lo ≤ n) && decide (n ≤ hi)) := by simp only [partsFit, ea]
  refine rd_split (fun c => ?_) (fun c => ?_)
  · walk_at "go"
    rw [e, decide_eq_true c, Bool.true_and] at q
    exact q
  · rw [e, decide_eq_false c, Bool.false_and] at q
    exact q
/-- an error of the class at C with a number leaves; what stood stands -/
def Raised (E : XK) (H : Hp) (C : Addr) (n : Int) : Prop := ∀ (H' : Hp) (d : Addr), Same H H' → H' d = some (.xd [("what", .int n)]) → E (.ref C) (some d) H'
theorem Raised.mono {E : XK} {H H1 : Hp} {C : Addr} {n : Int} (h : Raised E H C n) (s : Same H H1) : Raised E H1 C n := fun H' d s' e => h H' d (s.trans s') e
def spCount (cM : Addr) : Sp := fun vs H Q E => ∃ (n : Int), vs = [.int n] ∧ (40 ≤ n → Raised E H cM 41) ∧ (n < 40 → Q .non H)
abbrev s_check_count : Stmt := top 27
theorem sc_check_count : FnScope ["number"] ["number"] (defScope s_check_count) := ⟨rfl, rfl, rfl, by decide +kernel, rfl, by decide +kernel, by decide +kernel⟩
theorem has_check_count {fI cM : Addr} (O : OwnF K mg "check_count" s_check_count) (C : Cst mg) (hI : InitF P w K mg base fI) (M_TooMany : ErrC K mg fI "TooMany" cM) : HasF P w K mg base (L2.CX P w) 3 "check_count" ["number"] (spCount cM) := by
  refine hasX O sc_check_count (fun _ _ _ _ _ _ us hl => match us, hl with | [_], _ => rfl) (fun vs H Q E h => ?_) (fun f cdv A outer s_ H vs Q E hr h => ?_)
  · obtain ⟨n, rfl, _⟩ := h
    rfl
  obtain ⟨n, rfl, h1, h2⟩ := h
  refine ⟨_, (pss_one (ps_if (pt_cmpR geU (pv 0) (pe_globI C.MOST_JOINTS (by rfl)) (nomark _)) (pss_one (ps_raiseE K hI M_TooMany rfl (hr.mono (by decide)) tkX (pe_op (kAdd K) (pe_globI C.MOST_JOINTS (by rfl)) pe_int) (by rfl))) pss_nil)), ?_⟩
  refine st0 [some (.int n)] rfl ?_
  walk_at "go"
  refine rd_split (fun c => ?_) (fun c => ?_)
  · walk_at "go"
    exact u_raise M_TooMany.c M_TooMany.n fun d hd => h1 c _ d (same_new hd _) upd_same
  · walk_at "go"
    exact h2 (by omega)
def spForm (K : PySem.W.Frag) (cO cP : Addr) : Sp := fun vs H Q E => ∃ (z : Str) (a : Addr) (xs : List V) (ds : List PyData) (m n : Int), vs = [.str z, .ref a, .int m, .int n] ∧ SqT K H a xs ∧ Rps K H xs ds ∧ ds.length ≤ 1000 ∧ dats ds ∧
  (toldFits z ds = false → Raised E H cO n) ∧ (toldFits z ds = true → partsFit z m = false → Raised E H cP n) ∧ (toldFits z ds = true → partsFit z m = true → ∀ H', Same H H' → Q .non H')
abbrev s_check_form : Stmt := top 28
theorem sc_check_form : FnScope ["op", "told", "many", "place"] ["op", "told", "many", "place"] (defScope s_check_form) := ⟨rfl, rfl, rfl, by decide +kernel, rfl, by decide +kernel, by decide +kernel⟩
theorem has_check_form {fI cO cP : Addr} (O : OwnF K mg "check_form" s_check_form) (hI : InitF P w K mg base fI) (M_BadOp : ErrC K mg fI "BadOp" cO) (M_BadParts : ErrC K mg fI "BadParts" cP) (h_told_fits : HasF P w K mg base CX0 5 "told_fits" ["op", "told"] (spFits K)) (h_parts_fit : HasF P w K mg base CX0 1 "parts_fit" ["op", "many"] spPFit) : HasF P w K mg base (L2.CX P w) 6 "check_form" ["op", "told", "many", "place"] (spForm K cO cP) := by
  refine hasX O sc_check_form (fun _ _ _ _ _ _ us hl => match us, hl with | [_, _, _, _], _ => rfl) (fun vs H Q E h => ?_) (fun f cdv A outer s_ H vs Q E hr h => ?_)
  · obtain ⟨z, a, xs, ds, m, n, rfl, _⟩ := h
    rfl
  obtain ⟨z, a, xs, ds, m, n, rfl, hs, hR, hl, hd, h1, h2, h3⟩ := h
  refine ⟨_, (pss_cons (ps_if (pt_not (pt_val (pe_callH h_told_fits (hr.mono (by first | decide | omega)) (by rfl) pass0 (pa_cons (pv 0) (pa_cons (pv 1) pa_nil))))) (pss_one (ps_raiseE K hI M_BadOp rfl (hr.mono (by decide)) tkX (pv 3) (by rfl))) pss_nil) (pss_one (ps_if (pt_not (pt_val (pe_callH h_parts_fit (hr.mono (by first | decide | omega)) (by rfl) pass0 (pa_cons (pv 0) (pa_cons (pv 2) pa_nil))))) (pss_one (ps_raiseE K hI M_BadParts rfl (hr.mono (by decide)) tkX (pv 3) (by rfl))) pss_nil))), ?_⟩
  refine st0 [some (.str z), some (.ref a), some (.int m), some (.int n)] rfl ?_
  walk_at "go"
  refine use_fits hs hR hl hd fun H' s' => ?_
  walk_at "go"
  cases e1 : toldFits z ds with
  | false =>
    refine iteT ?_
    walk_at "go"
    exact u_raise M_BadOp.c M_BadOp.n fun d hd => h1 e1 _ d (Same.new s' hd) upd_same
  | true =>
    refine iteF ?_
    obtain ⟨lo, hi, ea⟩ := fits_arity e1
    walk_at "go"
    refine ⟨z, m, lo, hi, rfl, ea, ?_⟩
    walk_at "go"
    cases e2 : partsFit z m with
    | false =>
      refine iteT ?_
      walk_at "go"
      exact u_raise M_BadParts.c M_BadParts.n fun d hd => h2 e1 e2 _ d (Same.new s' hd) upd_same
    | true =>
      refine iteF ?_
      walk_at "go"
      exact h3 e1 e2 _ s'
end
end Mine

/-! ### P4 -/
set_option maxHeartbeats 1000000
namespace Mine
open PySem PySem.Spec L2
local macro_rules | `(tactic| walk_at "st") => `(tactic| first
  | ((with_reducible apply rd_var); exact rfl)
  | (with_reducible apply rd_c)
  | (with_reducible apply rd_seq)
  | (with_reducible apply rd_asg)
  | (with_reducible apply rd_gname)
  | (with_reducible apply rd_op)
  | (with_reducible apply rd_cb)
  | (with_reducible apply rd_cons)
  | (with_reducible apply rd_nil)
  | (with_reducible apply rd_if)
  | (with_reducible apply rd_test)
  | (with_reducible apply rd_bl)
  | (with_reducible apply rd_retE)
  | (with_reducible apply rd_ret)
  | (with_reducible apply rd_call)
  | (with_reducible apply rd_tup)
  | (with_reducible apply rd_lst)
  | (with_reducible apply rd_drop)
  | (with_reducible apply rd_next)
  | (with_reducible apply rd_ife)
  | (with_reducible apply rd_gsub)
  | (with_reducible apply rd_par)
  | (with_reducible apply rd_par_end)
  | (with_reducible apply rd_un)
  | (with_reducible apply rd_and)
  | (with_reducible apply rd_or)
  | (with_reducible apply rd_not)
  | (with_reducible apply rd_andV)
  | (with_reducible apply rd_orV)
  | (with_reducible apply rd_notV)
  | (with_reducible apply rd_chain)
  | (with_reducible apply rd_tB)
  | (with_reducible apply rd_brk)
  | (with_reducible apply rd_ct)
  | (with_reducible apply u_add)
  | (with_reducible apply u_sub)
  | (with_reducible apply u_lt)
  | (with_reducible apply u_le)
  | (with_reducible apply u_gt)
  | (with_reducible apply u_ge)
  | (with_reducible apply u_eqI)
  | (with_reducible apply u_eqS)
  | (with_reducible apply u_neI)
  | (with_reducible apply u_int)
  | (with_reducible apply u_intB)
  | (with_reducible apply u_max)
  | (with_reducible apply u_min)
  | (with_reducible apply u_neg)
  | ((with_reducible apply u_mod); focus first | assumption | decide | omega)
  | ((with_reducible apply u_div); focus first | decide | omega | (constructor <;> first | assumption | omega))
  | ((with_reducible apply u_mul); focus first | exact Or.inl (by omega) | exact Or.inr (by omega) | exact Or.inl (by decide) | exact Or.inr (by decide))
  | ((with_reducible apply u_ixL); (focus (first | assumption | exact SqL.of (by assumption) | exact SqL.of upd_same)); exact rfl)
  | ((with_reducible apply u_lenL); focus (first | assumption | exact SqL.of (by assumption) | exact SqL.of upd_same))
  | ((with_reducible apply u_lenT); focus (first | assumption | exact SqT.of (by assumption) | exact SqT.of upd_same))
  | ((with_reducible apply u_setL); (focus (first | assumption | exact upd_same)); exact rfl)
  | (with_reducible apply rd_chain3)
  | (with_reducible apply rd_tru)
  | (with_reducible apply rd_truB)
  | ((with_reducible apply rd_truL); focus (first | assumption | exact SqL.of (by assumption) | exact SqL.of upd_same))
  | (with_reducible apply rd_bm)
  | (with_reducible apply rd_bm0)
  | ((with_reducible apply rd_tyL); focus (first | exact SqL.of (by assumption) | exact SqL.of upd_same))
  | (with_reducible apply u_min3)
  | (with_reducible apply rd_rev)
  | (with_reducible apply rd_iList)
  | (with_reducible apply rd_iTup)
  | (with_reducible apply rd_for)
  | (with_reducible apply rd_rng1)
  | (with_reducible apply rd_rng2)
  | ((with_reducible apply rd_rng1e); (focus omega); (focus omega))
  | ((with_reducible apply rd_rng2e); (focus omega))
  | (with_reducible apply rd_gcons)
  | (with_reducible apply rd_gnil)
  | (with_reducible apply rd_retN)
  | (with_reducible apply g_eqI)
  | (with_reducible apply g_eqS)
  | (with_reducible apply g_neI)
  | (with_reducible apply g_neS)
  | (with_reducible apply g_neB)
  | (with_reducible apply rd_xf)
  | (with_reducible apply rd_raiseE)
  | (with_reducible apply rd_callS)
  | (with_reducible apply u_inD)
  | (with_reducible apply u_notInD)
  | (with_reducible apply u_inS)
  | (with_reducible apply u_notInS)
  | (with_reducible apply rd_iSeq)
  | ((with_reducible apply rd_seqL); (focus first | assumption | exact SqL.of (by assumption) | exact SqL.of upd_same))
  | ((with_reducible apply rd_seqT); (focus first | assumption | exact SqT.of (by assumption) | exact SqT.of upd_same))
  | (with_reducible apply rd_istr)
  | (with_reducible apply rd_istrE)
  | ((with_reducible apply u_isi); (focus (first | exact Or.inl rfl | exact Or.inr (Or.inl rfl) | exact Or.inr (Or.inr (Or.inl rfl)) | exact Or.inr (Or.inr (Or.inr rfl)))); (focus first | assumption | exact Rp.int _ | exact Rp.str _))
  | ((with_reducible apply rd_itL); (focus first | assumption | exact SqL.of (by assumption) | exact SqL.of upd_same))
  | ((with_reducible apply rd_itT); (focus first | assumption | exact SqT.of (by assumption) | exact SqT.of upd_same))
  | (with_reducible apply rd_lc)
  | (with_reducible apply rd_yes)
  | ((with_reducible apply u_pow); (focus (exact ⟨by decide, by decide, by decide⟩)))
  | (with_reducible apply u_mul; focus exact Or.inr cm)
  | (with_reducible apply rd_par3)
  | (with_reducible apply rd_par3_end)
  | ((with_reducible apply rd_aug); exact rfl)
  | (with_reducible apply rd_ipI)
  | (with_reducible apply iteT)
  | (with_reducible apply iteF))
local macro_rules | `(tactic| walk_at "go") => `(tactic| repeat (walk_at "st"))
local macro_rules | `(tactic| walk_at "sp") => `(tactic| (first | refine rd_split (fun c => ?_) (fun c => ?_) | refine rd_splitN (fun c => ?_) (fun c => ?_) | refine rd_splitB (fun c => ?_) (fun c => ?_)))
local macro_rules | `(tactic| walk_at "nx") => `(tactic| repeat (first | (with_reducible apply iteF) | (with_reducible apply iteT) | (with_reducible apply rd_next)))

section
variable {P : Program} {w : World} {K : PySem.W.Frag} {mg : Str → Option Value} {base : Heap}
abbrev s_is_triple : Stmt := top 29
theorem sc_is_triple : FnScope ["thing", "op", "told", "parts"] ["thing"] (defScope s_is_triple) := ⟨rfl, rfl, rfl, by decide +kernel, rfl, by decide +kernel, by decide +kernel⟩
theorem has_is_triple (O : OwnF K mg "is_triple" s_is_triple) (B : Bl mg) : HasF P w K mg base CX0 1 "is_triple" ["thing"] (spAsk K isTri) := by
  refine has0 O sc_is_triple (fun _ _ _ _ _ _ us hl => match us, hl with | [_], _ => rfl) (fun vs H Q E h => ?_) (fun f cdv A outer s_ H vs Q E hr h => ?_)
  · obtain ⟨v, d, rfl, _⟩ := h
    rfl
  obtain ⟨v, d, rfl, r, hd, q⟩ := h
  refine ⟨_, (pss_cons (ps_if (PW.pt (pw_or (pt_not (pt_val (pe_callB (kIsi K) (by rfl) B.isinstance (by decide +kernel) (pa_cons (pv 0) (pa_cons (pe_bltn (v := .ty "tuple") (by rfl) B.tuple (by decide +kernel) rfl) pa_nil))))) (pw_or1 (pt_cmpR (kNeG K (hU hr)) (pe_callB (kLen K) (by rfl) B.len (by decide +kernel) (pa_cons (pv 0) pa_nil)) pe_int (nomark _))))) (pss_one (ps_ret pe_bl)) pss_nil) (pss_cons (ps_asg (pv 0) (pg_tupK (n := 3) K rfl (pgs_cons (pg_name (i := 1) sc_is_triple.nd rfl (by first | exact Or.inl rfl | exact Or.inr rfl)) (pgs_cons (pg_name (i := 2) sc_is_triple.nd rfl (by first | exact Or.inl rfl | exact Or.inr rfl)) (pgs_cons (pg_name (i := 3) sc_is_triple.nd rfl (by first | exact Or.inl rfl | exact Or.inr rfl)) pgs_nil))))) (pss_one (ps_ret (pe_and (pe_callB (kIsi K) (by rfl) B.isinstance (by decide +kernel) (pa_cons (pv 1) (pa_cons (pe_bltn (v := .ty "str") (by rfl) B.str (by decide +kernel) rfl) pa_nil))) (pe_and (pe_callB (kIsi K) (by rfl) B.isinstance (by decide +kernel) (pa_cons (pv 2) (pa_cons (pe_bltn (v := .ty "tuple") (by rfl) B.tuple (by decide +kernel) rfl) pa_nil))) (pe_one (pe_callB (kIsi K) (by rfl) B.isinstance (by decide +kernel) (pa_cons (pv 3) (pa_cons (pe_bltn (v := .ty "tuple") (by rfl) B.tuple (by decide +kernel) rfl) pa_nil)))))))))), ?_⟩
  refine st0 [some v, none, none, none] rfl ?_
  walk_at "go"
  cases r with
  | @tup a xs ds hs hR =>
    refine iteF ?_
    walk_at "go"
    refine rd_splitN (fun c => ?_) (fun c => ?_)
    · walk_at "go"
      have e : false = isTri (.tuple ds) := by
        rw [hR.length] at c
        match ds, c with
        | [], _ => rfl
        | [x], _ => cases x <;> rfl
        | [x, y], _ => cases x <;> cases y <;> rfl
        | [_, _, _], c => exact absurd rfl c
        | x :: y :: z :: _ :: _, _ => cases x <;> cases y <;> cases z <;> rfl
      rw [e]; exact q _ (Same.refl _)
    · obtain ⟨x, y, z, d, e, f, rfl, rfl, r1, r2, r3⟩ := hR.three c
      walk_at "go"
      refine rd_gtup hs rfl ?_
      walk_at "go"
      have ee : (isT "str" d && isT "tuple" e && isT "tuple" f) = isTri (.tuple [d, e, f]) := by
        cases d <;> simp [isT, isTri] <;> cases e <;> simp [isT, isTri] <;> cases f <;> simp [isT, isTri]
      have q' := q H (Same.refl _)
      rw [← ee] at q'
      refine rd_splitB (fun c1 => ?_) (fun c1 => ?_)
      · walk_at "go"
        refine rd_splitB (fun c2 => ?_) (fun c2 => ?_)
        · walk_at "go"
          rw [c1, c2, Bool.true_and] at q'
          exact q'
        · rw [c1, c2, Bool.true_and] at q'
          exact q'
      · rw [c1] at q'
        exact q'
  | non => refine iteT ?_; walk_at "go"; exact q _ (Same.refl _)
  | bl b => refine iteT ?_; walk_at "go"; exact q _ (Same.refl _)
  | int i => refine iteT ?_; walk_at "go"; exact q _ (Same.refl _)
  | str z => refine iteT ?_; walk_at "go"; exact q _ (Same.refl _)
/-- the classes of the faults -/
structure Ecl where
  many : Addr
  prog : Addr
  op : Addr
  parts : Addr
def Ecl.of (c : Ecl) : Flt → Addr
  | .many => c.many
  | .prog => c.prog
  | .op => c.op
  | .parts => c.parts
def spJoint (K : PySem.W.Frag) (c : Ecl) : Sp := fun vs H Q E => ∃ (v : V) (d : PyData) (n : Int), vs = [v, .int n] ∧ Rp K H v d ∧ dat d ∧ (∀ f, jf d n = some f → Raised E H (c.of f) (fval f n)) ∧ (jf d n = none → ∀ H', Same H H' → Q .non H')
theorem use_joint {K : PySem.W.Frag} {c : Ecl} {v : V} {d : PyData} {n : Int} {H : Hp} {Q : VK} {E : XK} (r : Rp K H v d) (hd : dat d) (h1 : ∀ f, jf d n = some f → Raised E H (c.of f) (fval f n)) (h2 : jf d n = none → ∀ H', Same H H' → Q .non H') : spJoint K c [v, .int n] H Q E := ⟨v, d, n, rfl, r, hd, h1, h2⟩
abbrev s_check_joint : Stmt := top 30
theorem sc_check_joint : FnScope ["thing", "number", "op", "told", "parts"] ["thing", "number"] (defScope s_check_joint) := ⟨rfl, rfl, rfl, by decide +kernel, rfl, by decide +kernel, by decide +kernel⟩
theorem has_check_joint {fI : Addr} {c : Ecl} (O : OwnF K mg "check_joint" s_check_joint) (B : Bl mg) (hI : InitF P w K mg base fI) (M_BadProgram : ErrC K mg fI "BadProgram" c.prog) (h_check_count : HasF P w K mg base (L2.CX P w) 3 "check_count" ["number"] (spCount c.many)) (h_is_triple : HasF P w K mg base CX0 1 "is_triple" ["thing"] (spAsk K isTri)) (h_check_form : HasF P w K mg base (L2.CX P w) 6 "check_form" ["op", "told", "many", "place"] (spForm K c.op c.parts)) : HasF P w K mg base (L2.CX P w) 7 "check_joint" ["thing", "number"] (spJoint K c) := by
  refine hasX O sc_check_joint (fun _ _ _ _ _ _ us hl => match us, hl with | [_, _], _ => rfl) (fun vs H Q E h => ?_) (fun f cdv A outer s_ H vs Q E hr h => ?_)
  · obtain ⟨v, d, n, rfl, _⟩ := h
    rfl
  obtain ⟨v, d, n, rfl, r, hd, h1, h2⟩ := h
  refine ⟨_, (pss_cons (ps_expr (pe_callHS h_check_count (hr.mono (by first | decide | omega)) (by rfl) (fun σ => passAt tkX σ) (pa_cons (pv 1) pa_nil))) (pss_cons (ps_if (pt_not (pt_val (pe_callH h_is_triple (hr.mono (by first | decide | omega)) (by rfl) pass0 (pa_cons (pv 0) pa_nil)))) (pss_one (ps_raiseE K hI M_BadProgram rfl (hr.mono (by decide)) tkX (pv 1) (by rfl))) pss_nil) (pss_cons (ps_asg (pv 0) (pg_tupK (n := 3) K rfl (pgs_cons (pg_name (i := 2) sc_check_joint.nd rfl (by first | exact Or.inl rfl | exact Or.inr rfl)) (pgs_cons (pg_name (i := 3) sc_check_joint.nd rfl (by first | exact Or.inl rfl | exact Or.inr rfl)) (pgs_cons (pg_name (i := 4) sc_check_joint.nd rfl (by first | exact Or.inl rfl | exact Or.inr rfl)) pgs_nil))))) (pss_one (ps_expr (pe_callHS h_check_form (hr.mono (by first | decide | omega)) (by rfl) (fun σ => passAt tkX σ) (pa_cons (pv 2) (pa_cons (pv 3) (pa_cons (pe_callB (kLen K) (by rfl) B.len (by decide +kernel) (pa_cons (pv 4) pa_nil)) (pa_cons (pv 1) pa_nil)))))))))), ?_⟩
  refine st0 [some v, some (.int n), none, none, none] rfl ?_
  walk_at "go"
  refine ⟨n, rfl, fun c40 => ?_, fun c40 => ?_⟩
  · exact h1 .many (by unfold jf; rw [if_pos c40])
  have n40 : ¬ (40 : Int) ≤ n := by omega
  walk_at "go"
  refine use_ask r hd fun H1 s1 => ?_
  walk_at "go"
  by_cases ct : ∃ op told parts, d = .tuple [.str op, .tuple told, .tuple parts]
  · obtain ⟨op, told, parts, rfl⟩ := ct
    refine iteF ?_
    walk_at "go"
    have r1 := r.mono (Ext.of_same s1) _ _
    cases r1 with
    | @tup a xs ds hs hR =>
    obtain ⟨x, y, z, d, e, f, rfl, ed, ra, rb, rc⟩ := hR.three (by rw [hR.length] <;> rfl)
    cases ed
    cases ra
    cases rb with
    | @tup a2 xs2 ds2 hs2 hR2 =>
    cases rc with
    | @tup a3 xs3 ds3 hs3 hR3 =>
    refine rd_gtup hs rfl ?_
    walk_at "go"
    have hd2 : told.length ≤ 1000 ∧ dats told := hd.2.2.1
    have el := hR3.length
    refine ⟨op, a2, xs2, told, _, n, rfl, hs2, hR2, hd2.1, hd2.2, fun e1 => ?_, fun e1 e2 => ?_, fun e1 e2 H2 s2 => ?_⟩
    · exact (h1 .op (by unfold jf; rw [if_neg n40]; simp only [e1]; rfl)).mono s1
    · rw [el] at e2
      exact (h1 .parts (by unfold jf; rw [if_neg n40]; simp only [e1, e2]; rfl)).mono s1
    · rw [el] at e2
      walk_at "go"
      exact h2 (by unfold jf; rw [if_neg n40]; simp only [e1, e2]; rfl) _ (s1.trans s2)
  · have e1 : isTri d = false := by
      cases hh : isTri d with
      | false => rfl
      | true =>
        unfold isTri at hh
        split at hh
        · exact absurd ⟨_, _, _, rfl⟩ ct
        · cases hh
    have e2 : jf d n = some .prog := by
      unfold jf
      rw [if_neg n40]
      split
      · exact absurd ⟨_, _, _, rfl⟩ ct
      · rfl
    rw [e1]
    refine iteT ?_
    walk_at "go"
    exact u_raise M_BadProgram.c M_BadProgram.n fun d' hd' => h1 .prog e2 _ d' (Same.new s1 hd') upd_same
def spMade (K : PySem.W.Frag) (c : Ecl) : Sp := fun vs H Q E => ∃ (v : V) (d : PyData), vs = [v] ∧ Rp K H v d ∧ dat d ∧ (∀ f n, walk 42 [d] 0 = some (f, n) → Raised E H (c.of f) n) ∧ (walk 42 [d] 0 = none → ∀ H', Same H H' → Q v H')
theorem use_made {K : PySem.W.Frag} {c : Ecl} {v : V} {d : PyData} {H : Hp} {Q : VK} {E : XK} (r : Rp K H v d) (hd : dat d) (h1 : ∀ f n, walk 42 [d] 0 = some (f, n) → Raised E H (c.of f) n) (h2 : walk 42 [d] 0 = none → ∀ H', Same H H' → Q v H') : spMade K c [v] H Q E := ⟨v, d, rfl, r, hd, h1, h2⟩
abbrev s_made_program : Stmt := top 31
theorem sc_made_program : FnScope ["thing", "number", "waiting", "joint"] ["thing"] (defScope s_made_program) := ⟨rfl, rfl, rfl, by decide +kernel, rfl, by decide +kernel, by decide +kernel⟩
theorem has_made_program {c : Ecl} (O : OwnF K mg "made_program" s_made_program) (h_check_joint : HasF P w K mg base (L2.CX P w) 7 "check_joint" ["thing", "number"] (spJoint K c)) : HasF P w K mg base (L2.CX P w) 8 "made_program" ["thing"] (spMade K c) := by
  refine hasX O sc_made_program (fun _ _ _ _ _ _ us hl => match us, hl with | [_], _ => rfl) (fun vs H Q E h => ?_) (fun f cdv A outer s_ H vs Q E hr h => ?_)
  · obtain ⟨v, d, rfl, _⟩ := h
    rfl
  obtain ⟨v, d, rfl, r, hd, h1, h2⟩ := h
  refine ⟨_, (pss_cons (ps_set (i := 1) sc_made_program.nd rfl (by first | exact Or.inl rfl | exact Or.inr rfl) pe_int) (pss_cons (ps_set (i := 2) sc_made_program.nd rfl (by first | exact Or.inl rfl | exact Or.inr rfl) (pe_lst (pa_cons (pv 0) pa_nil))) (pss_cons (ps_while poX (pt_truthK K (pv 2) (by intro _; rfl)) (pss_cons (ps_set (i := 3) sc_made_program.nd rfl (by first | exact Or.inl rfl | exact Or.inr rfl) (pe_bm0K K PySem.F.plainAttrs_list PySem.F.slot_list_pop PySem.F.type_list_pop mt_pop (pv 2))) (pss_cons (ps_expr (pe_callHS h_check_joint (hr.mono (by first | decide | omega)) (by rfl) (fun σ => passAt tkX σ) (pa_cons (pv 3) (pa_cons (pv 1) pa_nil)))) (pss_cons (ps_aug (i := 1) sc_made_program.nd rfl (by first | exact Or.inl rfl | exact Or.inr rfl) pe_int ip_add) (pss_one (ps_expr (pe_bmK K PySem.F.plainAttrs_list PySem.F.slot_list_extend PySem.F.type_list_extend (kExt K) (pv 2) (pa_cons (pe_revK K (pe_ix (kIx K) (pv 3) pe_int (fun _ _ => rfl))) pa_nil)))))))) (pss_one (ps_ret (pv 0)))))), ?_⟩
  refine st0 [some v, none, none, none] rfl ?_
  walk_at "go"
  refine ⟨lk rfl, fun a ha => ?_⟩
  walk_at "go"
  refine rd_while (fun m σ H' => ∃ (n : Int) (st : List PyData) (xs : List V) (o : Option V), σ = [some v, some (.int n), some (.ref a), o] ∧ Same H H' ∧ H' a = some (.lst xs) ∧ Rps K H' xs st.reverse ∧ dats st ∧ 0 ≤ n ∧ n ≤ 40 ∧ n + m = 42 ∧ walk m st n = walk 42 [d] 0 ∧ (xs.length : Int) ≤ 1 + 1000 * n) 42
    ⟨0, [d], [v], none, rfl, same_new ha _, upd_same, .one (r.mono (Ext.new ha) _ _), ⟨hd, trivial⟩, by omega, by omega, by omega, rfl, by simp⟩ ?_
  rintro m σ H' ⟨n, st, xs, o, rfl, s', ea, hR, hd', n0, n1, nm, ew, hl⟩
  walk_at "go"
  match st, hR, hd', ew with
  | [], hR, hd', ew =>
    cases hR
    refine iteF ?_
    walk_at "go"
    rw [walk_none] at ew
    exact h2 ew.symm _ s'
  | j :: r0, hR, hd', ew =>
    have hR' := hR
    rw [List.reverse_cons] at hR'
    have hlen := hR.length
    have hpos : 0 < xs.length := by rw [hlen, List.length_reverse]; exact Nat.succ_pos _
    have hne : (!xs.isEmpty) = true := by cases xs with
      | nil => cases hpos
      | cons _ _ => rfl
    rw [hne]
    refine iteT ⟨fun σ' H' => ∃ m', m' < m ∧ _, fun _ _ h => h, ?_⟩
    walk_at "go"
    have e2 : (r0.reverse ++ [j])[xs.length - 1]? = some j := by
      rw [hlen, List.reverse_cons, List.length_append]
      simp
    obtain ⟨u, eu, ru⟩ := hR'.get e2
    refine u_pop ea eu ?_
    walk_at "go"
    have dj : dat j := hd'.1
    have xD : Ext K H' (upd H' a (.lst xs.dropLast)) := Ext.set ea trivial
    obtain ⟨m', rfl⟩ : ∃ m', m = m' + 1 := ⟨m - 1, by omega⟩
    refine use_joint (ru.mono xD _ _) dj (fun f ef => ?_) (fun ef H2 s2 => ?_)
    · have ew' : walk 42 [d] 0 = some (f, fval f n) := by
        rw [← ew]
        show (match jf j n with | some f => some (f, fval f n) | none => walk m' (partsOf j ++ r0) (n + 1)) = _
        rw [ef]
      exact (h1 _ _ ew').mono (Same.upd_new s' ha)
    · obtain ⟨op, told, parts, rfl⟩ := jf_tri ef
      have r2 := (ru.mono xD _ _).mono (Ext.of_same s2) _ _
      walk_at "go"
      cases r2 with
      | @tup aj xj dj2 hsj hRj =>
      obtain ⟨x, y, z, p, q, t, rfl, ed, ra, rb, rc⟩ := hRj.three (by rw [hRj.length] <;> rfl)
      cases ed
      cases rc with
      | @tup a3 xs3 ds3 hs3 hR3 =>
      have ea2 : H2 a = some (.lst xs.dropLast) := s2 _ _ upd_same
      have dp : parts.length ≤ 1000 ∧ dats parts := dj.2.2.2.1
      have lp := hR3.length
      refine rd_tyL (SqL.of ea2) ?_
      walk_at "go"
      refine u_ixT hsj rfl ?_
      refine rd_revT hs3 ?_
      intro b hb
      walk_at "go"
      have nab : a ≠ b := ne_of_none ea2 hb
      have n40 := jf_many ef
      refine u_extT (xs := xs.dropLast) (by rw [upd_ne nab]; exact ea2) (SqT.of upd_same) ?_ ?_
      · rw [List.length_dropLast, List.length_reverse, lp]
        exact ll (by omega)
      walk_at "go"
      refine ⟨m', Nat.lt_succ_self _, n + 1, parts ++ r0, xs.dropLast ++ xs3.reverse, _, rfl, ?_, upd_same, ?_, dats_append dp.2 hd'.2, by omega, by omega, by omega, ?_, ?_⟩
      · exact Same.upd_new (Same.new ((Same.upd_new s' ha).trans s2) hb) ha
      · rw [List.reverse_append]
        refine Rps.append ?_ ?_
        · have h3 := hR'.dropLast
          rw [List.dropLast_concat] at h3
          exact ((h3.mono xD _ _).mono (Ext.of_same s2) _ _).mono ((Ext.new hb).trans (Ext.set (o := .lst xs.dropLast) (by rw [upd_ne nab]; exact ea2) trivial)) _ _
        · exact (hR3.reverse).mono ((Ext.new hb).trans (Ext.set (o := .lst xs.dropLast) (by rw [upd_ne nab]; exact ea2) trivial)) _ _
      · rw [← ew]
        show _ = (match jf _ n with | some f => some (f, fval f n) | none => walk m' (partsOf _ ++ r0) (n + 1))
        rw [ef]
        rfl
      · rw [List.length_append, List.length_dropLast, List.length_reverse, lp]
        omega
end
end Mine

/-! ### P5 -/
set_option maxHeartbeats 1000000
namespace Mine
open PySem PySem.Spec L2
local macro_rules | `(tactic| walk_at "st") => `(tactic| first
  | ((with_reducible apply rd_var); exact rfl)
  | (with_reducible apply rd_c)
  | (with_reducible apply rd_seq)
  | (with_reducible apply rd_asg)
  | (with_reducible apply rd_gname)
  | (with_reducible apply rd_op)
  | (with_reducible apply rd_cb)
  | (with_reducible apply rd_cons)
  | (with_reducible apply rd_nil)
  | (with_reducible apply rd_if)
  | (with_reducible apply rd_test)
  | (with_reducible apply rd_bl)
  | (with_reducible apply rd_retE)
  | (with_reducible apply rd_ret)
  | (with_reducible apply rd_call)
  | (with_reducible apply rd_tup)
  | (with_reducible apply rd_lst)
  | (with_reducible apply rd_drop)
  | (with_reducible apply rd_next)
  | (with_reducible apply rd_ife)
  | (with_reducible apply rd_gsub)
  | (with_reducible apply rd_par)
  | (with_reducible apply rd_par_end)
  | (with_reducible apply rd_un)
  | (with_reducible apply rd_and)
  | (with_reducible apply rd_or)
  | (with_reducible apply rd_not)
  | (with_reducible apply rd_andV)
  | (with_reducible apply rd_orV)
  | (with_reducible apply rd_notV)
  | (with_reducible apply rd_chain)
  | (with_reducible apply rd_tB)
  | (with_reducible apply rd_brk)
  | (with_reducible apply rd_ct)
  | (with_reducible apply u_add)
  | (with_reducible apply u_sub)
  | (with_reducible apply u_lt)
  | (with_reducible apply u_le)
  | (with_reducible apply u_gt)
  | (with_reducible apply u_ge)
  | (with_reducible apply u_eqI)
  | (with_reducible apply u_eqS)
  | (with_reducible apply u_neI)
  | (with_reducible apply u_int)
  | (with_reducible apply u_intB)
  | (with_reducible apply u_max)
  | (with_reducible apply u_min)
  | (with_reducible apply u_neg)
  | ((with_reducible apply u_mod); focus first | assumption | decide | omega)
  | ((with_reducible apply u_div); focus first | decide | omega | (constructor <;> first | assumption | omega))
  | ((with_reducible apply u_mul); focus first | exact Or.inl (by omega) | exact Or.inr (by omega) | exact Or.inl (by decide) | exact Or.inr (by decide))
  | ((with_reducible apply u_ixL); (focus (first | assumption | exact SqL.of (by assumption) | exact SqL.of upd_same)); exact rfl)
  | ((with_reducible apply u_lenL); focus (first | assumption | exact SqL.of (by assumption) | exact SqL.of upd_same))
  | ((with_reducible apply u_lenT); focus (first | assumption | exact SqT.of (by assumption) | exact SqT.of upd_same))
  | ((with_reducible apply u_setL); (focus (first | assumption | exact upd_same)); exact rfl)
  | (with_reducible apply rd_chain3)
  | (with_reducible apply rd_tru)
  | (with_reducible apply rd_truB)
  | ((with_reducible apply rd_truL); focus (first | assumption | exact SqL.of (by assumption) | exact SqL.of upd_same))
  | (with_reducible apply rd_bm)
  | (with_reducible apply rd_bm0)
  | ((with_reducible apply rd_tyL); focus (first | exact SqL.of (by assumption) | exact SqL.of upd_same))
  | (with_reducible apply u_min3)
  | (with_reducible apply rd_rev)
  | (with_reducible apply rd_iList)
  | (with_reducible apply rd_iTup)
  | (with_reducible apply rd_for)
  | (with_reducible apply rd_rng1)
  | (with_reducible apply rd_rng2)
  | ((with_reducible apply rd_rng1e); (focus omega); (focus omega))
  | ((with_reducible apply rd_rng2e); (focus omega))
  | (with_reducible apply rd_gcons)
  | (with_reducible apply rd_gnil)
  | (with_reducible apply rd_retN)
  | (with_reducible apply g_eqI)
  | (with_reducible apply g_eqS)
  | (with_reducible apply g_neI)
  | (with_reducible apply g_neS)
  | (with_reducible apply g_neB)
  | (with_reducible apply rd_xf)
  | (with_reducible apply rd_raiseE)
  | (with_reducible apply rd_callS)
  | (with_reducible apply u_inD)
  | (with_reducible apply u_notInD)
  | (with_reducible apply u_inS)
  | (with_reducible apply u_notInS)
  | (with_reducible apply rd_iSeq)
  | ((with_reducible apply rd_seqL); (focus first | assumption | exact SqL.of (by assumption) | exact SqL.of upd_same))
  | ((with_reducible apply rd_seqT); (focus first | assumption | exact SqT.of (by assumption) | exact SqT.of upd_same))
  | (with_reducible apply rd_istr)
  | (with_reducible apply rd_istrE)
  | ((with_reducible apply u_isi); (focus (first | exact Or.inl rfl | exact Or.inr (Or.inl rfl) | exact Or.inr (Or.inr (Or.inl rfl)) | exact Or.inr (Or.inr (Or.inr rfl)))); (focus first | assumption | exact Rp.int _ | exact Rp.str _))
  | ((with_reducible apply rd_itL); (focus first | assumption | exact SqL.of (by assumption) | exact SqL.of upd_same))
  | ((with_reducible apply rd_itT); (focus first | assumption | exact SqT.of (by assumption) | exact SqT.of upd_same))
  | (with_reducible apply rd_lc)
  | (with_reducible apply rd_yes)
  | ((with_reducible apply u_pow); (focus (exact ⟨by decide, by decide, by decide⟩)))
  | (with_reducible apply u_mul; focus exact Or.inr cm)
  | (with_reducible apply rd_par3)
  | (with_reducible apply rd_par3_end)
  | ((with_reducible apply rd_aug); exact rfl)
  | (with_reducible apply rd_ipI)
  | (with_reducible apply iteT)
  | (with_reducible apply iteF))
local macro_rules | `(tactic| walk_at "go") => `(tactic| repeat (walk_at "st"))
local macro_rules | `(tactic| walk_at "sp") => `(tactic| (first | refine rd_split (fun c => ?_) (fun c => ?_) | refine rd_splitN (fun c => ?_) (fun c => ?_) | refine rd_splitB (fun c => ?_) (fun c => ?_)))
local macro_rules | `(tactic| walk_at "nx") => `(tactic| repeat (first | (with_reducible apply iteF) | (with_reducible apply iteT) | (with_reducible apply rd_next)))

section
variable {P : Program} {w : World} {K : PySem.W.Frag} {mg : Str → Option Value} {base : Heap}
/-- how the errors' classes stand to one another -/
structure Exm (K : PySem.W.Frag) (c : Ecl) (cR : Addr) : Prop where
  root : ∀ f, PySem.W.exmOne K (.ref (c.of f)) (.ref cR) = some true
  one : ∀ f g, PySem.W.exmOne K (.ref (c.of f)) (.ref (c.of g)) = some (decide (f = g))
abbrev s_is_program : Stmt := top 32
theorem sc_is_program : FnScope ["thing"] ["thing"] (defScope s_is_program) := ⟨rfl, rfl, rfl, by decide +kernel, rfl, by decide +kernel, by decide +kernel⟩
theorem has_is_program {fI cR : Addr} {c : Ecl} (O : OwnF K mg "is_program" s_is_program) (M_Refused : ErrC K mg fI "Refused" cR) (X : Exm K c cR) (h_made_program : HasF P w K mg base (L2.CX P w) 8 "made_program" ["thing"] (spMade K c)) : HasF P w K mg base CX0 9 "is_program" ["thing"] (spAsk K isProg) := by
  refine has0 O sc_is_program (fun _ _ _ _ _ _ us hl => match us, hl with | [_], _ => rfl) (fun vs H Q E h => ?_) (fun f cdv A outer s_ H vs Q E hr h => ?_)
  · obtain ⟨v, d, rfl, _⟩ := h
    rfl
  obtain ⟨v, d, rfl, r, hd, q⟩ := h
  refine ⟨_, (pss_cons (ps_try_mix rfl rfl takes0 (fun W pn xe tk _ => (pss_one (ps_expr (pe_callHS h_made_program (hr.mono (by first | decide | omega)) (by rfl) (fun σ => passAt tk σ) (pa_cons (pv 0) pa_nil))))) K rfl (Hds.plain ⟨rfl, by decide, Or.inl M_Refused.g⟩ (fun a oe cls d pn hz hf => (pss_one (ps_ret pe_bl))) Hds.nil)) (pss_one (ps_ret pe_bl))), ?_⟩
  refine st0 [some v] rfl ?_
  walk_at "go"
  refine use_made r hd (fun f n ef H1 d1 s1 e1 => ?_) (fun ew H1 s1 => ?_)
  · refine ⟨true, X.root f, fun _ a ha => ?_, fun z => nomatch z⟩
    walk_at "go"
    have e : false = isProg d := by simp only [isProg, ef, Option.isNone_some]
    rw [e]; exact q _ s1
  · walk_at "go"
    have e : true = isProg d := by simp only [isProg, ew, Option.isNone_none]
    rw [e]; exact q _ s1
abbrev s_law_told : Stmt := top 50
theorem sc_law_told : FnScope ["thing", "e"] ["thing"] (defScope s_law_told) := ⟨rfl, rfl, rfl, by decide +kernel, rfl, by decide +kernel, by decide +kernel⟩
def spTold (K : PySem.W.Frag) : Sp := fun vs H Q _ => ∃ (v : V) (d : PyData), vs = [v] ∧ Rp K H v d ∧ dat d ∧ ∀ (H' : Hp) (a : Addr), Same H H' →
  ((walk 42 [d] 0 = none ∧ H' a = some (.tup [.str "good", v])) ∨ ∃ f n, walk 42 [d] 0 = some (f, n) ∧ H' a = some (.tup [.str (fword f), .int n])) → Q (.ref a) H'
theorem has_law_told {fI cR : Addr} {c : Ecl} (O : OwnF K mg "_law_told" s_law_told) (M_Refused : ErrC K mg fI "Refused" cR) (M_TooMany : ErrC K mg fI "TooMany" c.many) (M_BadProgram : ErrC K mg fI "BadProgram" c.prog) (M_BadOp : ErrC K mg fI "BadOp" c.op) (M_BadParts : ErrC K mg fI "BadParts" c.parts)
    (X : Exm K c cR) (h_made_program : HasF P w K mg base (L2.CX P w) 8 "made_program" ["thing"] (spMade K c)) : HasF P w K mg base CX0 9 "_law_told" ["thing"] (spTold K) := by
  refine has0 O sc_law_told (fun _ _ _ _ _ _ us hl => match us, hl with | [_], _ => rfl) (fun vs H Q E h => ?_) (fun f cdv A outer s_ H vs Q E hr h => ?_)
  · obtain ⟨v, d, rfl, _⟩ := h
    rfl
  obtain ⟨v, d, rfl, r, hd, q⟩ := h
  refine ⟨_, (pss_one (ps_try_mix rfl rfl takes0 (fun W pn xe tk _ => (pss_one (ps_ret (pe_tup (pa_cons pe_str (pa_cons (pe_callHS h_made_program (hr.mono (by first | decide | omega)) (by rfl) (fun σ => passAt tk σ) (pa_cons (pv 0) pa_nil)) pa_nil)))))) K rfl (Hds.named (i := 1) ⟨rfl, by decide, Or.inl M_TooMany.g⟩ sc_law_told.nd rfl rfl (fun a oe cls d pn hz hf => (pss_one (ps_ret (pe_tup (pa_cons pe_str (pa_cons (pe_xf M_TooMany.f M_TooMany.n hz hf (pv 1)) pa_nil)))))) (Hds.named (i := 1) ⟨rfl, by decide, Or.inl M_BadProgram.g⟩ sc_law_told.nd rfl rfl (fun a oe cls d pn hz hf => (pss_one (ps_ret (pe_tup (pa_cons pe_str (pa_cons (pe_xf M_BadProgram.f M_BadProgram.n hz hf (pv 1)) pa_nil)))))) (Hds.named (i := 1) ⟨rfl, by decide, Or.inl M_BadOp.g⟩ sc_law_told.nd rfl rfl (fun a oe cls d pn hz hf => (pss_one (ps_ret (pe_tup (pa_cons pe_str (pa_cons (pe_xf M_BadOp.f M_BadOp.n hz hf (pv 1)) pa_nil)))))) (Hds.named (i := 1) ⟨rfl, by decide, Or.inl M_BadParts.g⟩ sc_law_told.nd rfl rfl (fun a oe cls d pn hz hf => (pss_one (ps_ret (pe_tup (pa_cons pe_str (pa_cons (pe_xf M_BadParts.f M_BadParts.n hz hf (pv 1)) pa_nil)))))) (Hds.plain ⟨rfl, by decide, Or.inl M_Refused.g⟩ (fun a oe cls d pn hz hf => (pss_one (ps_ret (pe_tup (pa_cons pe_str (pa_cons pe_int pa_nil)))))) Hds.nil))))))), ?_⟩
  refine st0 [some v, none] rfl ?_
  walk_at "go"
  refine use_made r hd (fun f n ef H1 d1 s1 e1 => ?_) (fun ew H1 s1 => ?_)
  · have fin : ∀ (p : Addr) (H2 : Hp), H1 p = none → H2 = upd H1 p (.tup [.str (fword f), .int n]) → Q (.ref p) H2 := fun p H2 hp e => by
      subst e
      exact q _ p (Same.new s1 hp) (.inr ⟨f, n, ef, upd_same⟩)
    cases f with
    | many =>
      refine ⟨true, X.one .many .many, fun _ a ha => ?_, fun z => nomatch z⟩
      walk_at "go"
      refine u_xf (by rfl) e1 ?_
      walk_at "go"
      exact ⟨lk rfl, fun p hp => fin p _ hp rfl⟩
    | prog =>
      refine ⟨false, X.one .prog .many, (fun z => nomatch z), fun _ => ⟨true, X.one .prog .prog, fun _ a ha => ?_, fun z => nomatch z⟩⟩
      walk_at "go"
      refine u_xf (by rfl) e1 ?_
      walk_at "go"
      exact ⟨lk rfl, fun p hp => fin p _ hp rfl⟩
    | op =>
      refine ⟨false, X.one .op .many, (fun z => nomatch z), fun _ => ⟨false, X.one .op .prog, (fun z => nomatch z), fun _ => ⟨true, X.one .op .op, fun _ a ha => ?_, fun z => nomatch z⟩⟩⟩
      walk_at "go"
      refine u_xf (by rfl) e1 ?_
      walk_at "go"
      exact ⟨lk rfl, fun p hp => fin p _ hp rfl⟩
    | parts =>
      refine ⟨false, X.one .parts .many, (fun z => nomatch z), fun _ => ⟨false, X.one .parts .prog, (fun z => nomatch z), fun _ => ⟨false, X.one .parts .op, (fun z => nomatch z), fun _ => ⟨true, X.one .parts .parts, fun _ a ha => ?_, fun z => nomatch z⟩⟩⟩⟩
      walk_at "go"
      refine u_xf (by rfl) e1 ?_
      walk_at "go"
      exact ⟨lk rfl, fun p hp => fin p _ hp rfl⟩
  · walk_at "go"
    refine ⟨lk rfl, fun p hp => ?_⟩
    exact q _ p (Same.new s1 hp) (.inl ⟨ew, upd_same⟩)
end
end Mine

/-! ### L1 -/
set_option maxHeartbeats 1000000
namespace Mine
open PySem PySem.Spec L2
local macro_rules | `(tactic| walk_at "st") => `(tactic| first
  | ((with_reducible apply rd_var); exact rfl)
  | (with_reducible apply rd_c)
  | (with_reducible apply rd_seq)
  | (with_reducible apply rd_asg)
  | (with_reducible apply rd_gname)
  | (with_reducible apply rd_op)
  | (with_reducible apply rd_cb)
  | (with_reducible apply rd_cons)
  | (with_reducible apply rd_nil)
  | (with_reducible apply rd_if)
  | (with_reducible apply rd_test)
  | (with_reducible apply rd_bl)
  | (with_reducible apply rd_retE)
  | (with_reducible apply rd_ret)
  | (with_reducible apply rd_call)
  | (with_reducible apply rd_tup)
  | (with_reducible apply rd_lst)
  | (with_reducible apply rd_drop)
  | (with_reducible apply rd_next)
  | (with_reducible apply rd_ife)
  | (with_reducible apply rd_gsub)
  | (with_reducible apply rd_par)
  | (with_reducible apply rd_par_end)
  | (with_reducible apply rd_un)
  | (with_reducible apply rd_and)
  | (with_reducible apply rd_or)
  | (with_reducible apply rd_not)
  | (with_reducible apply rd_andV)
  | (with_reducible apply rd_orV)
  | (with_reducible apply rd_notV)
  | (with_reducible apply rd_chain)
  | (with_reducible apply rd_tB)
  | (with_reducible apply rd_brk)
  | (with_reducible apply rd_ct)
  | (with_reducible apply u_add)
  | (with_reducible apply u_sub)
  | (with_reducible apply u_lt)
  | (with_reducible apply u_le)
  | (with_reducible apply u_gt)
  | (with_reducible apply u_ge)
  | (with_reducible apply u_eqI)
  | (with_reducible apply u_eqS)
  | (with_reducible apply u_neI)
  | (with_reducible apply u_int)
  | (with_reducible apply u_intB)
  | (with_reducible apply u_max)
  | (with_reducible apply u_min)
  | (with_reducible apply u_neg)
  | ((with_reducible apply u_mod); focus first | assumption | decide | omega)
  | ((with_reducible apply u_div); focus first | decide | omega | (constructor <;> first | assumption | omega))
  | ((with_reducible apply u_mul); focus first | exact Or.inl (by omega) | exact Or.inr (by omega) | exact Or.inl (by decide) | exact Or.inr (by decide))
  | ((with_reducible apply u_ixL); (focus (first | assumption | exact SqL.of (by assumption) | exact SqL.of upd_same)); exact rfl)
  | ((with_reducible apply u_lenL); focus (first | assumption | exact SqL.of (by assumption) | exact SqL.of upd_same))
  | ((with_reducible apply u_lenT); focus (first | assumption | exact SqT.of (by assumption) | exact SqT.of upd_same))
  | ((with_reducible apply u_setL); (focus (first | assumption | exact upd_same)); exact rfl)
  | (with_reducible apply rd_chain3)
  | (with_reducible apply rd_tru)
  | (with_reducible apply rd_truB)
  | ((with_reducible apply rd_truL); focus (first | assumption | exact SqL.of (by assumption) | exact SqL.of upd_same))
  | (with_reducible apply rd_bm)
  | (with_reducible apply rd_bm0)
  | ((with_reducible apply rd_tyL); focus (first | exact SqL.of (by assumption) | exact SqL.of upd_same))
  | (with_reducible apply u_min3)
  | (with_reducible apply rd_rev)
  | (with_reducible apply rd_iList)
  | (with_reducible apply rd_iTup)
  | (with_reducible apply rd_for)
  | (with_reducible apply rd_rng1)
  | (with_reducible apply rd_rng2)
  | ((with_reducible apply rd_rng1e); (focus omega); (focus omega))
  | ((with_reducible apply rd_rng2e); (focus omega))
  | (with_reducible apply rd_gcons)
  | (with_reducible apply rd_gnil)
  | (with_reducible apply rd_retN)
  | (with_reducible apply g_eqI)
  | (with_reducible apply g_eqS)
  | (with_reducible apply g_neI)
  | (with_reducible apply g_neS)
  | (with_reducible apply g_neB)
  | (with_reducible apply rd_xf)
  | (with_reducible apply rd_raiseE)
  | (with_reducible apply rd_callS)
  | (with_reducible apply u_inD)
  | (with_reducible apply u_notInD)
  | (with_reducible apply u_inS)
  | (with_reducible apply u_notInS)
  | (with_reducible apply rd_iSeq)
  | ((with_reducible apply rd_seqL); (focus first | assumption | exact SqL.of (by assumption) | exact SqL.of upd_same))
  | ((with_reducible apply rd_seqT); (focus first | assumption | exact SqT.of (by assumption) | exact SqT.of upd_same))
  | (with_reducible apply rd_istr)
  | (with_reducible apply rd_istrE)
  | ((with_reducible apply u_isi); (focus (first | exact Or.inl rfl | exact Or.inr (Or.inl rfl) | exact Or.inr (Or.inr (Or.inl rfl)) | exact Or.inr (Or.inr (Or.inr rfl)))); (focus first | assumption | exact Rp.int _ | exact Rp.str _))
  | ((with_reducible apply rd_itL); (focus first | assumption | exact SqL.of (by assumption) | exact SqL.of upd_same))
  | ((with_reducible apply rd_itT); (focus first | assumption | exact SqT.of (by assumption) | exact SqT.of upd_same))
  | (with_reducible apply rd_lc)
  | (with_reducible apply rd_yes)
  | ((with_reducible apply u_pow); (focus (exact ⟨by decide, by decide, by decide⟩)))
  | (with_reducible apply u_mul; focus exact Or.inr cm)
  | (with_reducible apply rd_par3)
  | (with_reducible apply rd_par3_end)
  | ((with_reducible apply rd_aug); exact rfl)
  | (with_reducible apply rd_ipI)
  | (with_reducible apply iteT)
  | (with_reducible apply iteF))
local macro_rules | `(tactic| walk_at "go") => `(tactic| repeat (walk_at "st"))
local macro_rules | `(tactic| walk_at "sp") => `(tactic| (first | refine rd_split (fun c => ?_) (fun c => ?_) | refine rd_splitN (fun c => ?_) (fun c => ?_) | refine rd_splitB (fun c => ?_) (fun c => ?_)))
local macro_rules | `(tactic| walk_at "nx") => `(tactic| repeat (first | (with_reducible apply iteF) | (with_reducible apply iteT) | (with_reducible apply rd_next)))

section
variable {P : Program} {w : World} {K : PySem.W.Frag} {mg : Str → Option Value} {base : Heap}
theorem canLay_chars : ∀ l : List Nat, (∀ c ∈ l, c < 0x110000) → PyData.canLayAll0 (l.map fun c => PyData.str ⟨#[c]⟩) = true
  | [], _ => by simp [PyData.canLayAll0]
  | c :: r, h => by
    have h1 : c < 0x110000 := h c List.mem_cons_self
    simp only [List.map_cons, PyData.canLayAll0, canLay_chars r fun x hx => h x (List.mem_cons_of_mem _ hx), Bool.and_true, PyData.canLay0, PyData.strOk]
    simp [h1]
theorem depth_chars : ∀ l : List Nat, PyData.depthAll (l.map fun c => PyData.str ⟨#[c]⟩) = 0
  | [] => rfl
  | c :: r => by simp only [List.map_cons, PyData.depthAll, depth_chars r, PyData.depth]; rfl
theorem dp_chars {K : PySem.W.Frag} {H : Hp} : ∀ l : List Nat, DpAll K H (l.map fun c => V.str ⟨#[c]⟩) (l.map fun c => PyData.str ⟨#[c]⟩)
  | [] => .nil
  | c :: r => .cons (.str _) (dp_chars r)
theorem okS_low {z : Str} (h : okS z) : ∀ c ∈ z.cps.toList, c < 0x110000 := by
  have h2 := h.2
  simp only [PyData.canLay0, PyData.strOk, Array.all_eq_true_iff_forall_mem, decide_eq_true_eq] at h2
  intro c hc
  exact h2 c (by simpa using hc)
abbrev s_law_word_fits : Stmt := top 46
theorem sc_law_word_fits : FnScope ["thing", "c"] ["thing"] (defScope s_law_word_fits) := ⟨rfl, rfl, rfl, by decide +kernel, rfl, by decide +kernel, by decide +kernel⟩
theorem has_law_word_fits (O : OwnF K mg "_law_word_fits" s_law_word_fits) (B : Bl mg) : HasF P w K mg base CX0 1 "_law_word_fits" ["thing"] (spAsk K isWord) := by
  refine has0 O sc_law_word_fits (fun _ _ _ _ _ _ us hl => match us, hl with | [_], _ => rfl) (fun vs H Q E h => ?_) (fun f cdv A outer s_ H vs Q E hr h => ?_)
  · obtain ⟨v, d, rfl, _⟩ := h
    rfl
  obtain ⟨v, d, rfl, r, hd, q⟩ := h
  refine ⟨_, (pss_one (ps_ret (pe_and (pe_callB (kIsi K) (by rfl) B.isinstance (by decide +kernel) (pa_cons (pv 0) (pa_cons (pe_bltn (v := .ty "str") (by rfl) B.str (by decide +kernel) rfl) pa_nil))) (pe_and (pe_chain leU leU pe_int (pe_callB (kLen K) (by rfl) B.len (by decide +kernel) (pa_cons (pv 0) pa_nil)) pe_int) (pe_one (pe_cmpR (kEqG K (hU hr)) (pe_lc (own := [("c", 1)]) (g := gName 1) (tt := _) rfl sc_law_word_fits.nd (pi_str (pv 0)) (blkOk_by (own := [("c", 1)]) (N := ["thing", "c"]) (sc := defScope s_law_word_fits) (by decide +kernel)) (fun _ _ _ _ _ => (pg_name (i := 1) sc_law_word_fits.nd rfl (by first | exact Or.inl rfl | exact Or.inr rfl))) (fun _ _ _ _ _ => (pts_one (pt_cmpR (kNotIn K) (pv 1) pe_str (by rfl)))) (fun _ _ _ _ _ => (pv 1))) (pe_lst pa_nil) (nomark _))))))), ?_⟩
  refine st0 [some v, none] rfl ?_
  walk_at "go"
  cases r with
  | str z =>
    refine iteT ?_
    have hz : z.length ≤ 1000 := hd.1
    walk_at "go"
    refine u_lenS (z_len hz) ?_
    walk_at "go"
    refine rd_split (fun c1 => ?_) (fun c1 => ?_)
    rotate_left
    · walk_at "go"
      have e : false = isWord (.str z) := by simp only [isWord, decide_eq_false c1, Bool.false_and]
      rw [e]; exact q _ (Same.refl _)
    walk_at "go"
    refine rd_split (fun c2 => ?_) (fun c2 => ?_)
    rotate_left
    · have e : false = isWord (.str z) := by simp only [isWord, decide_eq_false c2, Bool.and_false, Bool.false_and]
      rw [e]; exact q _ (Same.refl _)
    walk_at "go"
    intro D hD
    refine lcS (fun i H' => H' D = some (.lst (((z.cps.toList.take i).filter fun c => !decide (c ∈ Letters.cps.toList)).map fun c => V.str ⟨#[c]⟩)) ∧ Same H H') ⟨upd_same, Same.upd_new (Same.refl H) hD⟩ ?_ ?_
    · rintro i c H' hc ⟨h1, h3⟩
      have e1 : z.cps.toList[i]? = some c := by rw [Array.getElem?_toList]; exact hc
      walk_at "go"
      refine ⟨rfl, ?_⟩
      walk_at "go"
      refine rd_splitN (fun c3 => ?_) (fun c3 => ?_)
      · walk_at "go"
        refine ⟨_, h1, ?_, ?_, Same.upd_new h3 hD⟩
        · rw [List.length_map]
          have t1 := List.length_filter_le (fun c => !decide (c ∈ Letters.cps.toList)) (z.cps.toList.take i)
          rw [List.length_take] at t1
          have : z.cps.toList.length = z.length := (len_list z).symm
          exact ls (by omega)
        · rw [upd_same, List.take_add_one, e1, List.filter_append, List.map_append]
          have e3 : (!decide (c ∈ Letters.cps.toList)) = true := by rw [decide_eq_false c3]; rfl
          simp only [Option.toList_some, List.filter_cons, e3, if_true, List.filter_nil, List.map_cons, List.map_nil]
      · refine ⟨?_, h3⟩
        rw [h1, List.take_add_one, e1, List.filter_append]
        have e3 : (!decide (c ∈ Letters.cps.toList)) = false := by rw [decide_eq_true c3]; rfl
        rw [show ((some c).toList.filter fun c => !decide (c ∈ Letters.cps.toList)) = [] from by rw [Option.toList_some, List.filter_cons, e3, if_neg Bool.false_ne_true]; rfl, List.append_nil]
    · rintro H' ⟨h1, h3⟩
      walk_at "go"
      refine ⟨lk rfl, fun p hp => ?_⟩
      have nD : D ≠ p := ne_of_none h1 hp
      have e2 : z.cps.toList.take z.cps.size = z.cps.toList := by
        rw [List.take_of_length_le (by simp)]
      rw [e2] at h1
      refine g_eqD (d := .list ((z.cps.toList.filter fun c => !decide (c ∈ Letters.cps.toList)).map fun c => PyData.str ⟨#[c]⟩)) (e := .list []) (.lst (SqL.of (by rw [upd_ne nD]; exact h1)) (dp_chars _)) (.lst (SqL.of upd_same) .nil) ?_ (by simp [PyData.canLay0, PyData.canLayAll0]) ?_ ?_
      · simp only [PyData.canLay0]
        exact canLay_chars _ fun c hc => okS_low hd c ((List.mem_filter.mp hc).1)
      · simp only [PyData.depth, depth_chars]
        omega
      · have e : PyData.eqv (.list ((z.cps.toList.filter fun c => !decide (c ∈ Letters.cps.toList)).map fun c => PyData.str ⟨#[c]⟩)) (.list []) = isWord (.str z) := by
          simp only [isWord, decide_eq_true c1, decide_eq_true c2, Bool.true_and, PyData.eqv, lowAll]
          have : ∀ l : List Nat, PyData.eqvAll ((l.filter fun c => !decide (c ∈ Letters.cps.toList)).map fun c => PyData.str ⟨#[c]⟩) [] = l.all fun c => decide (c ∈ Letters.cps.toList) := by
            intro l
            induction l with
            | nil => rfl
            | cons a r ih =>
              rw [List.filter_cons, List.all_cons]
              cases ha : decide (a ∈ Letters.cps.toList) with
              | true => simp only [Bool.not_true, Bool.true_and]; exact ih
              | false => simp only [Bool.not_false, if_true, List.map_cons, Bool.false_and]; rfl
          exact this _
        rw [e]
        exact q _ (Same.new h3 hp)
  | non => refine iteF ?_; walk_at "go"; exact q _ (Same.refl _)
  | bl b => refine iteF ?_; walk_at "go"; exact q _ (Same.refl _)
  | int i => refine iteF ?_; walk_at "go"; exact q _ (Same.refl _)
  | tup _ _ => refine iteF ?_; walk_at "go"; exact q _ (Same.refl _)
end
end Mine

/-! ### L2 -/
set_option maxHeartbeats 1000000
namespace Mine
open PySem PySem.Spec L2
local macro_rules | `(tactic| walk_at "st") => `(tactic| first
  | ((with_reducible apply rd_var); exact rfl)
  | (with_reducible apply rd_c)
  | (with_reducible apply rd_seq)
  | (with_reducible apply rd_asg)
  | (with_reducible apply rd_gname)
  | (with_reducible apply rd_op)
  | (with_reducible apply rd_cb)
  | (with_reducible apply rd_cons)
  | (with_reducible apply rd_nil)
  | (with_reducible apply rd_if)
  | (with_reducible apply rd_test)
  | (with_reducible apply rd_bl)
  | (with_reducible apply rd_retE)
  | (with_reducible apply rd_ret)
  | (with_reducible apply rd_call)
  | (with_reducible apply rd_tup)
  | (with_reducible apply rd_lst)
  | (with_reducible apply rd_drop)
  | (with_reducible apply rd_next)
  | (with_reducible apply rd_ife)
  | (with_reducible apply rd_gsub)
  | (with_reducible apply rd_par)
  | (with_reducible apply rd_par_end)
  | (with_reducible apply rd_un)
  | (with_reducible apply rd_and)
  | (with_reducible apply rd_or)
  | (with_reducible apply rd_not)
  | (with_reducible apply rd_andV)
  | (with_reducible apply rd_orV)
  | (with_reducible apply rd_notV)
  | (with_reducible apply rd_chain)
  | (with_reducible apply rd_tB)
  | (with_reducible apply rd_brk)
  | (with_reducible apply rd_ct)
  | (with_reducible apply u_add)
  | (with_reducible apply u_sub)
  | (with_reducible apply u_lt)
  | (with_reducible apply u_le)
  | (with_reducible apply u_gt)
  | (with_reducible apply u_ge)
  | (with_reducible apply u_eqI)
  | (with_reducible apply u_eqS)
  | (with_reducible apply u_neI)
  | (with_reducible apply u_int)
  | (with_reducible apply u_intB)
  | (with_reducible apply u_max)
  | (with_reducible apply u_min)
  | (with_reducible apply u_neg)
  | ((with_reducible apply u_mod); focus first | assumption | decide | omega)
  | ((with_reducible apply u_div); focus first | decide | omega | (constructor <;> first | assumption | omega))
  | ((with_reducible apply u_mul); focus first | exact Or.inl (by omega) | exact Or.inr (by omega) | exact Or.inl (by decide) | exact Or.inr (by decide))
  | ((with_reducible apply u_ixL); (focus (first | assumption | exact SqL.of (by assumption) | exact SqL.of upd_same)); exact rfl)
  | ((with_reducible apply u_lenL); focus (first | assumption | exact SqL.of (by assumption) | exact SqL.of upd_same))
  | ((with_reducible apply u_lenT); focus (first | assumption | exact SqT.of (by assumption) | exact SqT.of upd_same))
  | ((with_reducible apply u_setL); (focus (first | assumption | exact upd_same)); exact rfl)
  | (with_reducible apply rd_chain3)
  | (with_reducible apply rd_tru)
  | (with_reducible apply rd_truB)
  | ((with_reducible apply rd_truL); focus (first | assumption | exact SqL.of (by assumption) | exact SqL.of upd_same))
  | (with_reducible apply rd_bm)
  | (with_reducible apply rd_bm0)
  | ((with_reducible apply rd_tyL); focus (first | exact SqL.of (by assumption) | exact SqL.of upd_same))
  | (with_reducible apply u_min3)
  | (with_reducible apply rd_rev)
  | (with_reducible apply rd_iList)
  | (with_reducible apply rd_iTup)
  | (with_reducible apply rd_for)
  | (with_reducible apply rd_rng1)
  | (with_reducible apply rd_rng2)
  | ((with_reducible apply rd_rng1e); (focus omega); (focus omega))
  | ((with_reducible apply rd_rng2e); (focus omega))
  | (with_reducible apply rd_gcons)
  | (with_reducible apply rd_gnil)
  | (with_reducible apply rd_retN)
  | (with_reducible apply g_eqI)
  | (with_reducible apply g_eqS)
  | (with_reducible apply g_neI)
  | (with_reducible apply g_neS)
  | (with_reducible apply g_neB)
  | (with_reducible apply rd_xf)
  | (with_reducible apply rd_raiseE)
  | (with_reducible apply rd_callS)
  | (with_reducible apply u_inD)
  | (with_reducible apply u_notInD)
  | (with_reducible apply u_inS)
  | (with_reducible apply u_notInS)
  | (with_reducible apply rd_iSeq)
  | ((with_reducible apply rd_seqL); (focus first | assumption | exact SqL.of (by assumption) | exact SqL.of upd_same))
  | ((with_reducible apply rd_seqT); (focus first | assumption | exact SqT.of (by assumption) | exact SqT.of upd_same))
  | (with_reducible apply rd_istr)
  | (with_reducible apply rd_istrE)
  | ((with_reducible apply u_isi); (focus (first | exact Or.inl rfl | exact Or.inr (Or.inl rfl) | exact Or.inr (Or.inr (Or.inl rfl)) | exact Or.inr (Or.inr (Or.inr rfl)))); (focus first | assumption | exact Rp.int _ | exact Rp.str _))
  | ((with_reducible apply rd_itL); (focus first | assumption | exact SqL.of (by assumption) | exact SqL.of upd_same))
  | ((with_reducible apply rd_itT); (focus first | assumption | exact SqT.of (by assumption) | exact SqT.of upd_same))
  | (with_reducible apply rd_lc)
  | (with_reducible apply rd_yes)
  | ((with_reducible apply u_pow); (focus (exact ⟨by decide, by decide, by decide⟩)))
  | (with_reducible apply u_mul; focus exact Or.inr cm)
  | (with_reducible apply rd_par3)
  | (with_reducible apply rd_par3_end)
  | ((with_reducible apply rd_aug); exact rfl)
  | (with_reducible apply rd_ipI)
  | (with_reducible apply iteT)
  | (with_reducible apply iteF))
local macro_rules | `(tactic| walk_at "go") => `(tactic| repeat (walk_at "st"))
local macro_rules | `(tactic| walk_at "sp") => `(tactic| (first | refine rd_split (fun c => ?_) (fun c => ?_) | refine rd_splitN (fun c => ?_) (fun c => ?_) | refine rd_splitB (fun c => ?_) (fun c => ?_)))
local macro_rules | `(tactic| walk_at "nx") => `(tactic| repeat (first | (with_reducible apply iteF) | (with_reducible apply iteT) | (with_reducible apply rd_next)))

section
variable {P : Program} {w : World} {K : PySem.W.Frag} {mg : Str → Option Value} {base : Heap}
abbrev s_law_told_fits : Stmt := top 47
theorem sc_law_told_fits : FnScope ["op", "told", "part", "number", "ops"] ["op", "told"] (defScope s_law_told_fits) := ⟨rfl, rfl, rfl, by decide +kernel, rfl, by decide +kernel, by decide +kernel⟩
theorem has_law_told_fits (O : OwnF K mg "_law_told_fits" s_law_told_fits) (B : Bl mg) (h_law_word_fits : HasF P w K mg base CX0 1 "_law_word_fits" ["thing"] (spAsk K isWord)) : HasF P w K mg base CX0 2 "_law_told_fits" ["op", "told"] (spFits K) := by
  refine has0 O sc_law_told_fits (fun _ _ _ _ _ _ us hl => match us, hl with | [_, _], _ => rfl) (fun vs H Q E h => ?_) (fun f cdv A outer s_ H vs Q E hr h => ?_)
  · obtain ⟨z, a, xs, ds, rfl, _⟩ := h
    rfl
  obtain ⟨z, a, xs, ds, rfl, hs, hR, hl, hd, q⟩ := h
  have el := hR.length
  refine ⟨_, (pss_cons (ps_if (pt_cmpR (kEqG K (hU hr)) (pv 0) pe_str (nomark _)) (pss_one (ps_ret (pe_and (pe_cmpR (kEqG K (hU hr)) (pe_callB (kLen K) (by rfl) B.len (by decide +kernel) (pa_cons (pv 1) pa_nil)) pe_int (nomark _)) (pe_and (pe_callH h_law_word_fits (hr.mono (by first | decide | omega)) (by rfl) pass0 (pa_cons (pe_ix (kIx K) (pv 1) pe_int (fun _ _ => rfl)) pa_nil)) (pe_and (pe_callB (kIsi K) (by rfl) B.isinstance (by decide +kernel) (pa_cons (pe_ix (kIx K) (pv 1) pe_int (fun _ _ => rfl)) (pa_cons (pe_bltn (v := .ty "int") (by rfl) B.int (by decide +kernel) rfl) pa_nil))) (pe_one (pe_chain leU leU pe_int (pe_ix (kIx K) (pv 1) pe_int (fun _ _ => rfl)) pe_int))))))) pss_nil) (pss_cons (ps_if (pt_cmpR (kNeG K (hU hr)) (pe_lc (own := [("part", 2)]) (g := gName 2) (tt := _) rfl sc_law_told_fits.nd (pi_tupK K (pv 1)) (blkOk_by (own := [("part", 2)]) (N := ["op", "told", "part", "number", "ops"]) (sc := defScope s_law_told_fits) (by decide +kernel)) (fun _ _ _ _ _ => (pg_name (i := 2) sc_law_told_fits.nd rfl (by first | exact Or.inl rfl | exact Or.inr rfl))) (fun _ _ _ _ _ => (pts_one (pt_not (pt_val (pe_callB (kIsi K) (by rfl) B.isinstance (by decide +kernel) (pa_cons (pv 2) (pa_cons (pe_bltn (v := .ty "int") (by rfl) B.int (by decide +kernel) rfl) pa_nil))))))) (fun _ _ _ _ _ => (pv 2))) (pe_lst pa_nil) (nomark _)) (pss_one (ps_ret pe_bl)) pss_nil) (pss_cons (ps_if (pt_cmpR (kEqG K (hU hr)) (pv 0) pe_str (nomark _)) (pss_one (ps_ret (pe_and (pe_chain leU leU pe_int (pe_callB (kLen K) (by rfl) B.len (by decide +kernel) (pa_cons (pv 1) pa_nil)) pe_int) (pe_one (pe_cmpR (kEqG K (hU hr)) (pe_lc (own := [("number", 3)]) (g := gName 3) (tt := _) rfl sc_law_told_fits.nd (pi_tupK K (pv 1)) (blkOk_by (own := [("number", 3)]) (N := ["op", "told", "part", "number", "ops"]) (sc := defScope s_law_told_fits) (by decide +kernel)) (fun _ _ _ _ _ => (pg_name (i := 3) sc_law_told_fits.nd rfl (by first | exact Or.inl rfl | exact Or.inr rfl))) (fun _ _ _ _ _ => (pts_one (pt_not (pt_chain leU leU pe_int (pv 3) pe_int)))) (fun _ _ _ _ _ => (pv 3))) (pe_lst pa_nil) (nomark _)))))) pss_nil) (pss_cons (ps_if (pt_cmpR (kEqG K (hU hr)) (pv 0) pe_str (nomark _)) (pss_one (ps_ret (pe_and (pe_cmpR (kEqG K (hU hr)) (pe_callB (kLen K) (by rfl) B.len (by decide +kernel) (pa_cons (pv 1) pa_nil)) pe_int (nomark _)) (pe_one (pe_chain3 leU ltU leU pe_int (pe_ix (kIx K) (pv 1) pe_int (fun _ _ => rfl)) (pe_ix (kIx K) (pv 1) pe_int (fun _ _ => rfl)) pe_int))))) pss_nil) (pss_cons (ps_if (PW.pt (pw_or (pt_cmpR (kEqG K (hU hr)) (pv 0) pe_str (nomark _)) (pw_or1 (pt_cmpR (kEqG K (hU hr)) (pv 0) pe_str (nomark _))))) (pss_one (ps_ret (pe_and (pe_cmpR (kEqG K (hU hr)) (pe_callB (kLen K) (by rfl) B.len (by decide +kernel) (pa_cons (pv 1) pa_nil)) pe_int (nomark _)) (pe_one (pe_chain leU leU (pe_callTy intU (by rfl) B.int (by decide +kernel) (pa_cons (pe_cmpR (kEqG K (hU hr)) (pv 0) pe_str (nomark _)) pa_nil)) (pe_ix (kIx K) (pv 1) pe_int (fun _ _ => rfl)) (pe_ix (kIx K) (pe_lst (pa_cons pe_int (pa_cons pe_int pa_nil))) (pe_callTy intU (by rfl) B.int (by decide +kernel) (pa_cons (pe_cmpR (kEqG K (hU hr)) (pv 0) pe_str (nomark _)) pa_nil)) (fun _ _ => rfl))))))) pss_nil) (pss_cons (ps_set (i := 4) sc_law_told_fits.nd rfl (by first | exact Or.inl rfl | exact Or.inr rfl) (pe_lst (pa_cons pe_str (pa_cons pe_str (pa_cons pe_str (pa_cons pe_str (pa_cons pe_str (pa_cons pe_str (pa_cons pe_str (pa_cons pe_str (pa_cons pe_str (pa_cons pe_str (pa_cons pe_str pa_nil))))))))))))) (pss_one (ps_ret (pe_and (pe_cmpR (kIn K) (pv 0) (pv 4) (by rfl)) (pe_one (pe_cmpR (kEqG K (hU hr)) (pv 1) (pe_tup pa_nil) (nomark _)))))))))))), ?_⟩
  refine st0 [some (.str z), some (.ref a), none, none, none] rfl ?_
  walk_at "go"
  refine rd_split (fun cin => ?_) (fun cin => ?_)
  · subst cin
    rw [show toldFits (Str.ofString "in") ds = tellsInput ds from fits_in] at q
    walk_at "go"
    refine rd_split (fun c => ?_) (fun c => ?_)
    rotate_left
    · have ee : false = tellsInput ds := by
        rw [el] at c
        match ds, c with
        | [], _ => rfl
        | [_], _ => rfl
        | [_, _], c => exact absurd rfl c
        | _ :: _ :: _ :: _, _ => rfl
      rw [ee]; exact q _ (Same.refl _)
    obtain ⟨x, y, d, e, rfl, rfl, r1, r2⟩ := hR.pair c
    walk_at "go"
    refine u_ixT hs rfl ?_
    walk_at "go"
    refine use_ask r1 hd.1 fun H' s' => ?_
    have hs' := Ext.of_same s' _ _ hs
    have r2' := r2.mono (Ext.of_same s') _ _
    have de : dat e := hd.2.1
    walk_at "go"
    cases hw : isWord d with
    | false =>
      refine iteF ?_
      have ee : false = tellsInput [d, e] := by simp only [tellsInput, hw, Bool.false_and]
      rw [ee]; exact q _ s'
    | true =>
      have et : tellsInput [d, e] = isBtw e 1 64 := by simp only [tellsInput, hw, Bool.true_and]
      rw [et] at q
      refine iteT ?_
      walk_at "go"
      refine u_ixT hs' rfl ?_
      walk_at "go"
      cases r2' with
      | int i =>
        refine iteT ?_
        walk_at "go"
        refine u_ixT hs' rfl ?_
        walk_at "go"
        refine rd_split (fun c1 => ?_) (fun c1 => ?_)
        · walk_at "go"
          have ee : decide (i ≤ 64) = isBtw (.int i) 1 64 := by simp [isBtw, c1]
          rw [ee]; exact q _ s'
        · have ee : false = isBtw (.int i) 1 64 := by simp [isBtw, c1]
          rw [ee]; exact q _ s'
      | non => refine iteF ?_; exact q _ s'
      | bl b => simp only [dat] at de
      | str i => refine iteF ?_; exact q _ s'
      | tup _ _ => refine iteF ?_; exact q _ s'
  walk_at "go"
  intro D hD
  refine lc_tup (K := K) (a := a) (xs := xs) (fun i H' => ∃ ws, H' D = some (.lst ws) ∧ Rps K H' ws ((ds.take i).filter fun d => !isIntD d) ∧ Same H H') ⟨[], upd_same, .nil, Same.upd_new (Same.refl H) hD⟩ ?_ ?_ ?_
  · rintro i H' hi ⟨ws, h1, h2, h3⟩
    exact Ext.of_same h3 a xs hs
  · rintro i x H' hx ⟨ws, h1, h2, h3⟩
    obtain ⟨d, e1, e2⟩ := hR.getV hx
    have e2' := e2.mono (Ext.of_same h3) _ _
    have hdd := dats_get hd e1
    walk_at "go"
    refine ⟨rfl, ?_⟩
    walk_at "go"
    rw [isInt_isT hdd]
    have lw : ws.length < sizeLine := by
      rw [h2.length]
      have t1 := List.length_filter_le (fun d => !isIntD d) (ds.take i)
      rw [List.length_take] at t1
      exact ls (by omega)
    cases hb : isIntD d with
    | true =>
      refine iteF ?_
      exact ⟨ws, h1, h2.filter_skip e1 (by rw [hb]; rfl), h3⟩
    | false =>
      refine iteT ?_
      walk_at "go"
      refine ⟨ws, h1, lw, ws ++ [x], upd_same, ?_, Same.upd_new h3 hD⟩
      exact (h2.filter_snoc e1 e2' (by rw [hb]; rfl)).mono (Ext.set h1 trivial) _ _
  rintro H1 ⟨ws, h1, h2, s1⟩
  rw [el, List.take_length] at h2
  walk_at "go"
  refine ⟨lk rfl, fun p hp => ?_⟩
  have nD : D ≠ p := ne_of_none h1 hp
  have h2' := h2.mono (Ext.new (o := .lst []) hp) _ _
  have hlay : PyData.canLay0 (.list (ds.filter fun d => !isIntD d)) = true := by
    simp only [PyData.canLay0]
    exact dats_lay _ (dats_filter hd)
  refine g_neD (d := .list (ds.filter fun d => !isIntD d)) (e := .list []) (.lst (SqL.of (by rw [upd_ne nD]; exact h1)) (Rps.dp _ _ h2')) (.lst (SqL.of upd_same) .nil) hlay (by simp [PyData.canLay0, PyData.canLayAll0]) ?_ ?_
  · simp only [PyData.depth, PyData.depthAll]
    omega
  rw [eqv_nil, filter_empty]
  have s2 : Same H (upd H1 p (.lst [])) := Same.new s1 hp
  walk_at "go"
  cases hall : ds.all isIntD with
  | false =>
    refine iteT ?_
    walk_at "go"
    have e : false = toldFits z ds := by
      cases hh : toldFits z ds with
      | false => rfl
      | true => rw [fits_ints cin hh] at hall; cases hall
    rw [e]; exact q _ s2
  | true =>
    refine iteF ?_
    have hs2 := Ext.of_same s2 _ _ hs
    have hR2 := hR.mono (Ext.of_same s2) _ _
    generalize upd H1 p (.lst []) = H2 at *
    obtain ⟨ns, e1, e2⟩ := hR2.intsOf hall
    walk_at "go"
    refine rd_split (fun crow => ?_) (fun crow => ?_)
    · subst crow
      rw [show toldFits (Str.ofString "row") ds = tellsRow ds from fits_row] at q
      walk_at "go"
      rw [el]
      refine rd_split (fun c1 => ?_) (fun c1 => ?_)
      rotate_left
      · walk_at "go"
        have e : false = tellsRow ds := by simp only [tellsRow, decide_eq_false c1, Bool.false_and]
        rw [e]; exact q _ s2
      walk_at "go"
      refine rd_split (fun c2 => ?_) (fun c2 => ?_)
      rotate_left
      · have e : false = tellsRow ds := by simp only [tellsRow, decide_eq_false c2, Bool.and_false, Bool.false_and]
        rw [e]; exact q _ s2
      walk_at "go"
      intro D3 hD3
      refine lc_tup (K := K) (a := a) (xs := xs) (fun i H' => ∃ ws, H' D3 = some (.lst ws) ∧ Rps K H' ws ((ds.take i).filter fun d => !inRow d) ∧ Same H2 H') ⟨[], upd_same, .nil, Same.upd_new (Same.refl H2) hD3⟩ ?_ ?_ ?_
      · rintro i H' hi ⟨ws, h1, h2, h3⟩
        exact Ext.of_same h3 a xs hs2
      · rintro i x H' hx ⟨ws, h1, h2, h3⟩
        obtain ⟨d, e3, e4⟩ := hR2.getV hx
        have e4' := e4.mono (Ext.of_same h3) _ _
        have hdd := dats_get hd e3
        have hint : isIntD d = true := by
          rw [List.all_eq_true] at hall
          exact hall d (List.mem_of_getElem? e3)
        have lw : ws.length < sizeLine := by
          rw [h2.length]
          have t1 := List.length_filter_le (fun d => !inRow d) (ds.take i)
          rw [List.length_take] at t1
          exact ls (by omega)
        cases e4' with
        | int k =>
          have er : inRow (.int k) = (decide (0 ≤ k) && decide (k ≤ 1000002)) := rfl
          have yes : inRow (.int k) = false → (∃ acc, H' D3 = some (.lst acc) ∧ acc.length < sizeLine ∧ ∃ ws', upd H' D3 (.lst (acc ++ [.int k])) D3 = some (.lst ws') ∧ Rps K (upd H' D3 (.lst (acc ++ [.int k]))) ws' ((ds.take (i + 1)).filter fun d => !inRow d) ∧ Same H2 (upd H' D3 (.lst (acc ++ [.int k])))) := fun hb =>
            ⟨ws, h1, lw, ws ++ [.int k], upd_same, (h2.filter_snoc e3 (.int k) (by rw [hb]; rfl)).mono (Ext.set h1 trivial) _ _, Same.upd_new h3 hD3⟩
          walk_at "go"
          refine ⟨rfl, ?_⟩
          walk_at "go"
          refine rd_split (fun c3 => ?_) (fun c3 => ?_)
          · walk_at "go"
            refine rd_splitN (fun c4 => ?_) (fun c4 => ?_)
            · walk_at "go"
              exact yes (by rw [er, decide_eq_false c4, Bool.and_false])
            · exact ⟨ws, h1, h2.filter_skip e3 (by rw [er, decide_eq_true c3, decide_eq_true c4]; rfl), h3⟩
          · walk_at "go"
            refine iteT ?_
            walk_at "go"
            exact yes (by rw [er, decide_eq_false c3, Bool.false_and])
        | non => cases hint
        | bl _ => cases hint
        | str _ => cases hint
        | tup _ _ => cases hint
      rintro H3 ⟨ws3, h31, h32, s3⟩
      rw [el, List.take_length] at h32
      walk_at "go"
      refine ⟨lk rfl, fun p3 hp3 => ?_⟩
      have nD3 : D3 ≠ p3 := ne_of_none h31 hp3
      have h32' := h32.mono (Ext.new (o := .lst []) hp3) _ _
      have hlay3 : PyData.canLay0 (.list (ds.filter fun d => !inRow d)) = true := by
        simp only [PyData.canLay0]
        exact dats_lay _ (dats_filter hd)
      refine g_eqD (d := .list (ds.filter fun d => !inRow d)) (e := .list []) (.lst (SqL.of (by rw [upd_ne nD3]; exact h31)) (Rps.dp _ _ h32')) (.lst (SqL.of upd_same) .nil) hlay3 (by simp [PyData.canLay0, PyData.canLayAll0]) ?_ ?_
      · simp only [PyData.depth, PyData.depthAll]
        omega
      rw [eqv_nil, filter_empty]
      have e : ds.all inRow = tellsRow ds := by
        simp only [tellsRow, decide_eq_true c1, decide_eq_true c2, Bool.true_and]
        rfl
      rw [e]
      exact q _ (Same.new (s2.trans s3) hp3)
    walk_at "go"
    refine rd_split (fun cpart => ?_) (fun cpart => ?_)
    · subst cpart
      rw [show toldFits (Str.ofString "part") ds = tellsStretch ds from fits_part] at q
      walk_at "go"
      rw [el]
      refine rd_split (fun c1 => ?_) (fun c1 => ?_)
      rotate_left
      · have ee : false = tellsStretch ds := by
          match ds, c1 with
          | [], _ => rfl
          | [_], _ => rfl
          | [_, _], c => exact absurd rfl c
          | _ :: y :: _ :: _, _ => cases y <;> rfl
        rw [ee]; exact q _ s2
      obtain ⟨i, j, rfl⟩ : ∃ i j, ns = [i, j] := by
        rw [e1, List.length_map] at c1
        match ns, c1 with
        | [i, j], _ => exact ⟨i, j, rfl⟩
        | [], c => cases c
        | [_], c => cases c
        | _ :: _ :: _ :: _, c => rw [List.length_cons, List.length_cons, List.length_cons] at c; omega
      subst e1 e2
      walk_at "go"
      refine u_ixT hs2 rfl ?_
      have et : tellsStretch [.int i, .int j] = (decide (0 ≤ j) && decide (j ≤ 64) && (decide (0 ≤ i) && decide (i ≤ j - 1))) := rfl
      rw [show ([i, j].map PyData.int) = [.int i, .int j] from rfl, et] at q
      have q' := q H2 s2
      walk_at "go"
      refine rd_split (fun c3 => ?_) (fun c3 => ?_)
      · walk_at "go"
        refine u_ixT hs2 rfl ?_
        walk_at "go"
        refine rd_split (fun c4 => ?_) (fun c4 => ?_)
        · walk_at "go"
          have c5 : decide (j ≤ 64) = (decide (0 ≤ j) && decide (j ≤ 64) && (decide (0 ≤ i) && decide (i ≤ j - 1))) := by
            rw [decide_eq_true (show (0 : Int) ≤ j by omega), decide_eq_true c3, decide_eq_true (show i ≤ j - 1 by omega)]
            simp
          rw [c5]; exact q'
        · have c5 : false = (decide (0 ≤ j) && decide (j ≤ 64) && (decide (0 ≤ i) && decide (i ≤ j - 1))) := by
            rw [decide_eq_false (show ¬ i ≤ j - 1 by omega)]
            simp
          rw [c5]; exact q'
      · have c5 : false = (decide (0 ≤ j) && decide (j ≤ 64) && (decide (0 ≤ i) && decide (i ≤ j - 1))) := by
          rw [decide_eq_false c3]
          simp
        rw [c5]; exact q'
    walk_at "go"
    have two : z = "rep" ∨ z = "hold" ∨ (z ≠ "rep" ∧ z ≠ "hold") := by
      by_cases c1 : z = "rep"
      · exact .inl c1
      · by_cases c2 : z = "hold"
        · exact .inr (.inl c2)
        · exact .inr (.inr ⟨c1, c2⟩)
    have single : ((ds.length : Nat) : Int) = 1 → ∃ n, ns = [n] := fun c => by
      rw [e1, List.length_map] at c
      match ns, c with
      | [n], _ => exact ⟨n, rfl⟩
      | [], c => cases c
      | _ :: _ :: _, c => rw [List.length_cons, List.length_cons] at c; omega
    have empt : ∀ c : ¬ ((ds.length : Nat) : Int) = 1, tellsTimes ds = false ∧ tellsRoom ds = false := fun c => by
      match ds, c with
      | [], _ => exact ⟨rfl, rfl⟩
      | [_], c => exact absurd rfl c
      | _ :: _ :: _, _ => exact ⟨rfl, rfl⟩
    rcases two with rfl | rfl | ⟨crep, chold⟩
    · rw [show toldFits (Str.ofString "rep") ds = tellsTimes ds from fits_rep] at q
      have k1 : (if decide (Str.ofString "rep" = Str.ofString "rep") = true then (1 : Int) else 0) = 1 := by simp
      refine rd_split (fun _ => ?_) (fun c => absurd rfl c)
      walk_at "go"
      rw [el]
      refine rd_split (fun c1 => ?_) (fun c1 => ?_)
      rotate_left
      · have e := (empt c1).1
        have q' := q H2 s2
        rw [e] at q'; exact q'
      obtain ⟨n, rfl⟩ := single c1
      subst e1 e2
      walk_at "go"
      rw [k1]
      refine u_ixT hs2 rfl ?_
      walk_at "go"
      have et : tellsTimes [.int n] = (decide (1 ≤ n) && decide (n ≤ 16)) := rfl
      rw [show ([n].map PyData.int) = [.int n] from rfl, et] at q
      refine rd_split (fun c2 => ?_) (fun c2 => ?_)
      · walk_at "go"
        refine ⟨lk rfl, fun p4 hp4 => ?_⟩
        walk_at "go"
        rw [decide_eq_true c2, Bool.true_and] at q
        exact q _ (Same.new s2 hp4)
      · rw [decide_eq_false c2, Bool.false_and] at q
        exact q _ s2
    · rw [show toldFits (Str.ofString "hold") ds = tellsRoom ds from fits_hold] at q
      have k0 : ¬ Str.ofString "hold" = Str.ofString "rep" := by decide
      have k1 : (if decide (Str.ofString "hold" = Str.ofString "rep") = true then (1 : Int) else 0) = 0 := by rw [decide_eq_false k0]; rfl
      refine rd_split (fun c => absurd c k0) (fun _ => ?_)
      walk_at "go"
      refine rd_split (fun _ => ?_) (fun c => absurd rfl c)
      walk_at "go"
      rw [el]
      refine rd_split (fun c1 => ?_) (fun c1 => ?_)
      rotate_left
      · have e := (empt c1).2
        have q' := q H2 s2
        rw [e] at q'; exact q'
      obtain ⟨n, rfl⟩ := single c1
      subst e1 e2
      walk_at "go"
      rw [k1]
      refine u_ixT hs2 rfl ?_
      walk_at "go"
      have et : tellsRoom [.int n] = (decide (0 ≤ n) && decide (n ≤ 64)) := rfl
      rw [show ([n].map PyData.int) = [.int n] from rfl, et] at q
      refine rd_split (fun c2 => ?_) (fun c2 => ?_)
      · walk_at "go"
        refine ⟨lk rfl, fun p4 hp4 => ?_⟩
        walk_at "go"
        rw [decide_eq_true c2, Bool.true_and] at q
        exact q _ (Same.new s2 hp4)
      · rw [decide_eq_false c2, Bool.false_and] at q
        exact q _ s2
    · rw [fits_other crow cin cpart crep chold] at q
      refine rd_split (fun c => absurd c crep) (fun _ => ?_)
      walk_at "go"
      refine rd_split (fun c => absurd c chold) (fun _ => ?_)
      walk_at "go"
      refine ⟨lk rfl, fun p4 hp4 => ?_⟩
      have s4 : Same H (upd H2 p4 (.lst (ops11.map V.str))) := Same.new s2 hp4
      walk_at "go"
      refine u_inL (xs := ops11.map V.str) (SqL.of upd_same) rfl (by decide +kernel) ?_
      have ei : inV (.str z) (ops11.map V.str) = decide (z ∈ ops11) := by
        unfold inV
        rw [List.any_map]
        have : ∀ l : List Str, (l.any ((fun y => eqV y (V.str z)) ∘ V.str)) = decide (z ∈ l) := by
          intro l
          induction l with
          | nil => rfl
          | cons a r ih =>
            rw [List.any_cons, ih]
            have e3 : eqV (V.str a) (V.str z) = decide (z = a) := by
              show (a == z) = _
              by_cases c : z = a
              · subst c; simp
              · rw [decide_eq_false c]
                exact beq_eq_false_iff_ne.mpr (fun h => c h.symm)
            show (eqV (V.str a) (V.str z) || decide (z ∈ r)) = _
            rw [e3]
            simp [List.mem_cons]
        exact this ops11
      rw [ei]
      walk_at "go"
      refine rd_split (fun c1 => ?_) (fun c1 => ?_)
      rotate_left
      · rw [decide_eq_false c1, Bool.false_and] at q
        exact q _ s4
      rw [decide_eq_true c1, Bool.true_and] at q
      walk_at "go"
      refine ⟨lk rfl, fun p5 hp5 => ?_⟩
      have s5 := Same.new (o := .tup []) s4 hp5
      refine g_eqD (d := .tuple ds) (e := .tuple []) (.tup (Ext.of_same s5 _ _ hs) (Rps.dp _ _ (hR.mono (Ext.of_same s5) _ _))) (.tup (SqT.of upd_same) .nil) (by simp only [PyData.canLay0]; exact dats_lay _ hd) (by simp [PyData.canLay0, PyData.canLayAll0]) ?_ ?_
      · simp only [PyData.depth, PyData.depthAll]
        omega
      have e6 : PyData.eqv (.tuple ds) (.tuple []) = ds.isEmpty := by
        cases ds with
        | nil => simp [PyData.eqv, PyData.eqvAll]
        | cons a r => simp [PyData.eqv, PyData.eqvAll]
      rw [e6]
      exact q _ s5
end
end Mine

/-! ### L3 -/
set_option maxHeartbeats 1000000
namespace Mine
open PySem PySem.Spec L2
local macro_rules | `(tactic| walk_at "st") => `(tactic| first
  | ((with_reducible apply rd_var); exact rfl)
  | (with_reducible apply rd_c)
  | (with_reducible apply rd_seq)
  | (with_reducible apply rd_asg)
  | (with_reducible apply rd_gname)
  | (with_reducible apply rd_op)
  | (with_reducible apply rd_cb)
  | (with_reducible apply rd_cons)
  | (with_reducible apply rd_nil)
  | (with_reducible apply rd_if)
  | (with_reducible apply rd_test)
  | (with_reducible apply rd_bl)
  | (with_reducible apply rd_retE)
  | (with_reducible apply rd_ret)
  | (with_reducible apply rd_call)
  | (with_reducible apply rd_tup)
  | (with_reducible apply rd_lst)
  | (with_reducible apply rd_drop)
  | (with_reducible apply rd_next)
  | (with_reducible apply rd_ife)
  | (with_reducible apply rd_gsub)
  | (with_reducible apply rd_par)
  | (with_reducible apply rd_par_end)
  | (with_reducible apply rd_un)
  | (with_reducible apply rd_and)
  | (with_reducible apply rd_or)
  | (with_reducible apply rd_not)
  | (with_reducible apply rd_andV)
  | (with_reducible apply rd_orV)
  | (with_reducible apply rd_notV)
  | (with_reducible apply rd_chain)
  | (with_reducible apply rd_tB)
  | (with_reducible apply rd_brk)
  | (with_reducible apply rd_ct)
  | (with_reducible apply u_add)
  | (with_reducible apply u_sub)
  | (with_reducible apply u_lt)
  | (with_reducible apply u_le)
  | (with_reducible apply u_gt)
  | (with_reducible apply u_ge)
  | (with_reducible apply u_eqI)
  | (with_reducible apply u_eqS)
  | (with_reducible apply u_neI)
  | (with_reducible apply u_int)
  | (with_reducible apply u_intB)
  | (with_reducible apply u_max)
  | (with_reducible apply u_min)
  | (with_reducible apply u_neg)
  | ((with_reducible apply u_mod); focus first | assumption | decide | omega)
  | ((with_reducible apply u_div); focus first | decide | omega | (constructor <;> first | assumption | omega))
  | ((with_reducible apply u_mul); focus first | exact Or.inl (by omega) | exact Or.inr (by omega) | exact Or.inl (by decide) | exact Or.inr (by decide))
  | ((with_reducible apply u_ixL); (focus (first | assumption | exact SqL.of (by assumption) | exact SqL.of upd_same)); exact rfl)
  | ((with_reducible apply u_lenL); focus (first | assumption | exact SqL.of (by assumption) | exact SqL.of upd_same))
  | ((with_reducible apply u_lenT); focus (first | assumption | exact SqT.of (by assumption) | exact SqT.of upd_same))
  | ((with_reducible apply u_setL); (focus (first | assumption | exact upd_same)); exact rfl)
  | (with_reducible apply rd_chain3)
  | (with_reducible apply rd_tru)
  | (with_reducible apply rd_truB)
  | ((with_reducible apply rd_truL); focus (first | assumption | exact SqL.of (by assumption) | exact SqL.of upd_same))
  | (with_reducible apply rd_bm)
  | (with_reducible apply rd_bm0)
  | ((with_reducible apply rd_tyL); focus (first | exact SqL.of (by assumption) | exact SqL.of upd_same))
  | (with_reducible apply u_min3)
  | (with_reducible apply rd_rev)
  | (with_reducible apply rd_iList)
  | (with_reducible apply rd_iTup)
  | (with_reducible apply rd_for)
  | (with_reducible apply rd_rng1)
  | (with_reducible apply rd_rng2)
  | ((with_reducible apply rd_rng1e); (focus omega); (focus omega))
  | ((with_reducible apply rd_rng2e); (focus omega))
  | (with_reducible apply rd_gcons)
  | (with_reducible apply rd_gnil)
  | (with_reducible apply rd_retN)
  | (with_reducible apply g_eqI)
  | (with_reducible apply g_eqS)
  | (with_reducible apply g_neI)
  | (with_reducible apply g_neS)
  | (with_reducible apply g_neB)
  | (with_reducible apply rd_xf)
  | (with_reducible apply rd_raiseE)
  | (with_reducible apply rd_callS)
  | (with_reducible apply u_inD)
  | (with_reducible apply u_notInD)
  | (with_reducible apply u_inS)
  | (with_reducible apply u_notInS)
  | (with_reducible apply rd_iSeq)
  | ((with_reducible apply rd_seqL); (focus first | assumption | exact SqL.of (by assumption) | exact SqL.of upd_same))
  | ((with_reducible apply rd_seqT); (focus first | assumption | exact SqT.of (by assumption) | exact SqT.of upd_same))
  | (with_reducible apply rd_istr)
  | (with_reducible apply rd_istrE)
  | ((with_reducible apply u_isi); (focus (first | exact Or.inl rfl | exact Or.inr (Or.inl rfl) | exact Or.inr (Or.inr (Or.inl rfl)) | exact Or.inr (Or.inr (Or.inr rfl)))); (focus first | assumption | exact Rp.int _ | exact Rp.str _))
  | ((with_reducible apply rd_itL); (focus first | assumption | exact SqL.of (by assumption) | exact SqL.of upd_same))
  | ((with_reducible apply rd_itT); (focus first | assumption | exact SqT.of (by assumption) | exact SqT.of upd_same))
  | (with_reducible apply rd_lc)
  | (with_reducible apply rd_yes)
  | ((with_reducible apply u_pow); (focus (exact ⟨by decide, by decide, by decide⟩)))
  | (with_reducible apply u_mul; focus exact Or.inr cm)
  | (with_reducible apply rd_par3)
  | (with_reducible apply rd_par3_end)
  | ((with_reducible apply rd_aug); exact rfl)
  | (with_reducible apply rd_ipI)
  | (with_reducible apply iteT)
  | (with_reducible apply iteF))
local macro_rules | `(tactic| walk_at "go") => `(tactic| repeat (walk_at "st"))
local macro_rules | `(tactic| walk_at "sp") => `(tactic| (first | refine rd_split (fun c => ?_) (fun c => ?_) | refine rd_splitN (fun c => ?_) (fun c => ?_) | refine rd_splitB (fun c => ?_) (fun c => ?_)))
local macro_rules | `(tactic| walk_at "nx") => `(tactic| repeat (first | (with_reducible apply iteF) | (with_reducible apply iteT) | (with_reducible apply rd_next)))

section
variable {P : Program} {w : World} {K : PySem.W.Frag} {mg : Str → Option Value} {base : Heap}
def spPFit2 : Sp := fun vs H Q _ => ∃ (z : Str) (n lo hi : Int), vs = [.str z, .int n] ∧ arity z = some (lo, hi) ∧ ∀ H', Same H H' → Q (.bl (partsFit z n)) H'
abbrev s_law_parts_fit : Stmt := top 48
theorem sc_law_parts_fit : FnScope ["op", "many"] ["op", "many"] (defScope s_law_parts_fit) := ⟨rfl, rfl, rfl, by decide +kernel, rfl, by decide +kernel, by decide +kernel⟩
theorem has_law_parts_fit (O : OwnF K mg "_law_parts_fit" s_law_parts_fit) : HasF P w K mg base CX0 1 "_law_parts_fit" ["op", "many"] spPFit2 := by
  refine has0 O sc_law_parts_fit (fun _ _ _ _ _ _ us hl => match us, hl with | [_, _], _ => rfl) (fun vs H Q E h => ?_) (fun f cdv A outer s_ H vs Q E hr h => ?_)
  · obtain ⟨z, n, lo, hi, rfl, _⟩ := h
    rfl
  obtain ⟨z, n, lo, hi, rfl, ea, q⟩ := h
  have eq1 : ∀ k : Int, (decide (k ≤ n) && decide (n ≤ k)) = decide (n = k) := fun k => by
    by_cases c : n = k
    · subst c; simp
    · rw [decide_eq_false c]
      by_cases c2 : k ≤ n
      · rw [decide_eq_false (show ¬ n ≤ k by omega), Bool.and_false]
      · rw [decide_eq_false c2, Bool.false_and]
  have ep : partsFit z n = (decide (lo ≤ n) && decide (n ≤ hi)) := by simp only [partsFit, ea]
  rw [ep] at q
  refine ⟨_, (pss_cons (ps_if (pt_cmpR (kIn K) (pv 0) (pe_lst (pa_cons pe_str (pa_cons pe_str pa_nil))) (by rfl)) (pss_one (ps_ret (pe_cmpR (kEqG K (hU hr)) (pv 1) pe_int (nomark _)))) pss_nil) (pss_cons (ps_if (pt_cmpR (kIn K) (pv 0) (pe_lst (pa_cons pe_str (pa_cons pe_str (pa_cons pe_str (pa_cons pe_str (pa_cons pe_str (pa_cons pe_str pa_nil))))))) (by rfl)) (pss_one (ps_ret (pe_cmpR (kEqG K (hU hr)) (pv 1) pe_int (nomark _)))) pss_nil) (pss_one (ps_ret (pe_ifExp (pt_cmpR (kEqG K (hU hr)) (pv 0) pe_str (nomark _)) (pe_chain leU leU pe_int (pv 1) pe_int) (pe_cmpR (kEqG K (hU hr)) (pv 1) pe_int (nomark _))))))), ?_⟩
  refine st0 [some (.str z), some (.int n)] rfl ?_
  walk_at "go"
  refine ⟨lk rfl, fun p1 hp1 => ?_⟩
  have s1 : Same H (upd H p1 (.lst (op0.map V.str))) := same_new hp1 _
  walk_at "go"
  refine u_inL (xs := op0.map V.str) (SqL.of upd_same) rfl (flat_strs _) ?_
  rw [inV_str]
  walk_at "go"
  unfold arity at ea
  refine rd_split (fun c0 => ?_) (fun c0 => ?_)
  · rw [if_pos c0] at ea
    cases ea
    rw [eq1] at q
    walk_at "go"
    exact q _ s1
  rw [if_neg c0] at ea
  walk_at "go"
  refine ⟨lk rfl, fun p2 hp2 => ?_⟩
  have s2 : Same H (upd _ p2 (.lst (op2.map V.str))) := Same.new s1 hp2
  have m2 : inV (.str z) ([Str.ofString "add", Str.ofString "sub", Str.ofString "mul", Str.ofString "dot", Str.ofString "outer", Str.ofString "blend"].map V.str) = decide (z ∈ op2) := inV_str z op2
  walk_at "go"
  refine u_inL (xs := op2.map V.str) (SqL.of upd_same) rfl (flat_strs _) ?_
  rw [inV_str]
  walk_at "go"
  have no12 : z ∈ op2 → ¬ z ∈ op1 := by
    have k : ∀ y ∈ op2, ¬ y ∈ op1 := by decide +kernel
    exact k z
  refine rd_split (fun c2 => ?_) (fun c2 => ?_)
  · rw [if_neg (no12 c2), if_pos c2] at ea
    cases ea
    rw [eq1] at q
    walk_at "go"
    exact q _ s2
  walk_at "go"
  refine rd_split (fun c3 => ?_) (fun c3 => ?_)
  · subst c3
    rw [if_neg (by decide +kernel), if_neg c2, if_pos rfl] at ea
    cases ea
    walk_at "go"
    refine rd_split (fun c4 => ?_) (fun c4 => ?_)
    · walk_at "go"
      rw [decide_eq_true c4, Bool.true_and] at q
      exact q _ s2
    · rw [decide_eq_false c4, Bool.false_and] at q
      exact q _ s2
  · by_cases c1 : z ∈ op1
    · rw [if_pos c1] at ea
      cases ea
      rw [eq1] at q
      walk_at "go"
      exact q _ s2
    · rw [if_neg c1, if_neg c2, if_neg c3] at ea
      cases ea
abbrev s_law_due : Stmt := top 49
theorem sc_law_due : FnScope ["thing", "left", "count", "turn", "joint", "part"] ["thing"] (defScope s_law_due) := ⟨rfl, rfl, rfl, by decide +kernel, rfl, by decide +kernel, by decide +kernel⟩
theorem has_law_due (O : OwnF K mg "_law_due" s_law_due) (B : Bl mg) (h_law_told_fits : HasF P w K mg base CX0 2 "_law_told_fits" ["op", "told"] (spFits K)) (h_law_parts_fit : HasF P w K mg base CX0 1 "_law_parts_fit" ["op", "many"] spPFit2) : HasF P w K mg base CX0 3 "_law_due" ["thing"] (spTold K) := by
  refine has0 O sc_law_due (fun _ _ _ _ _ _ us hl => match us, hl with | [_], _ => rfl) (fun vs H Q E h => ?_) (fun f cdv A outer s_ H vs Q E hr h => ?_)
  · obtain ⟨v, d, rfl, _⟩ := h
    rfl
  obtain ⟨v, d, rfl, r, hd, q⟩ := h
  have fin : ∀ (f : Flt) (n : Int), walk 42 [d] 0 = some (f, n) → ∀ H4 : Hp, Same H H4 → ∀ p, H4 p = none → Q (.ref p) (upd H4 p (.tup [.str (fword f), .int n])) := fun f n e H4 s4 p hp => q _ p (Same.new s4 hp) (.inr ⟨f, n, e, upd_same⟩)
  refine ⟨_, (pss_cons (ps_par (i := 1) (j := 2) (by rfl) sc_law_due.nd rfl rfl (by decide) rfl rfl (pa_cons (pe_lst (pa_cons (pv 0) pa_nil)) (pa_cons pe_int pa_nil)) (by rfl)) (pss_cons (ps_for PassesOwn.never rfl (pi_range1 (by rfl) B.range (pa_cons pe_int pa_nil)) (pg_name (i := 3) sc_law_due.nd rfl (by first | exact Or.inl rfl | exact Or.inr rfl)) (pss_cons (ps_if (pt_cmpR (kEqG K (hU hr)) (pv 1) (pe_lst pa_nil) (nomark _)) (pss_one ps_break) pss_nil) (pss_cons (ps_set (i := 4) sc_law_due.nd rfl (by first | exact Or.inl rfl | exact Or.inr rfl) (pe_bm0K K PySem.F.plainAttrs_list PySem.F.slot_list_pop PySem.F.type_list_pop mt_pop (pv 1))) (pss_cons (ps_if (pt_cmpR (kEqG K (hU hr)) (pv 2) pe_int (nomark _)) (pss_one (ps_ret (pe_tup (pa_cons pe_str (pa_cons pe_int pa_nil))))) pss_nil) (pss_cons (ps_if (PW.pt (pw_or (pt_not (pt_val (pe_callB (kIsi K) (by rfl) B.isinstance (by decide +kernel) (pa_cons (pv 4) (pa_cons (pe_bltn (v := .ty "tuple") (by rfl) B.tuple (by decide +kernel) rfl) pa_nil))))) (pw_or1 (pt_cmpR (kNeG K (hU hr)) (pe_callB (kLen K) (by rfl) B.len (by decide +kernel) (pa_cons (pv 4) pa_nil)) pe_int (nomark _))))) (pss_one (ps_ret (pe_tup (pa_cons pe_str (pa_cons (pv 2) pa_nil))))) pss_nil) (pss_cons (ps_if (PW.pt (pw_or (pt_not (pt_val (pe_callB (kIsi K) (by rfl) B.isinstance (by decide +kernel) (pa_cons (pe_ix (kIx K) (pv 4) pe_int (fun _ _ => rfl)) (pa_cons (pe_bltn (v := .ty "str") (by rfl) B.str (by decide +kernel) rfl) pa_nil))))) (pw_or (pt_not (pt_val (pe_callB (kIsi K) (by rfl) B.isinstance (by decide +kernel) (pa_cons (pe_ix (kIx K) (pv 4) pe_int (fun _ _ => rfl)) (pa_cons (pe_bltn (v := .ty "tuple") (by rfl) B.tuple (by decide +kernel) rfl) pa_nil))))) (pw_or1 (pt_not (pt_val (pe_callB (kIsi K) (by rfl) B.isinstance (by decide +kernel) (pa_cons (pe_ix (kIx K) (pv 4) pe_int (fun _ _ => rfl)) (pa_cons (pe_bltn (v := .ty "tuple") (by rfl) B.tuple (by decide +kernel) rfl) pa_nil))))))))) (pss_one (ps_ret (pe_tup (pa_cons pe_str (pa_cons (pv 2) pa_nil))))) pss_nil) (pss_cons (ps_if (pt_not (pt_val (pe_callH h_law_told_fits (hr.mono (by first | decide | omega)) (by rfl) pass0 (pa_cons (pe_ix (kIx K) (pv 4) pe_int (fun _ _ => rfl)) (pa_cons (pe_ix (kIx K) (pv 4) pe_int (fun _ _ => rfl)) pa_nil))))) (pss_one (ps_ret (pe_tup (pa_cons pe_str (pa_cons (pv 2) pa_nil))))) pss_nil) (pss_cons (ps_if (pt_not (pt_val (pe_callH h_law_parts_fit (hr.mono (by first | decide | omega)) (by rfl) pass0 (pa_cons (pe_ix (kIx K) (pv 4) pe_int (fun _ _ => rfl)) (pa_cons (pe_callB (kLen K) (by rfl) B.len (by decide +kernel) (pa_cons (pe_ix (kIx K) (pv 4) pe_int (fun _ _ => rfl)) pa_nil)) pa_nil))))) (pss_one (ps_ret (pe_tup (pa_cons pe_str (pa_cons (pv 2) pa_nil))))) pss_nil) (pss_cons (ps_set (i := 1) sc_law_due.nd rfl (by first | exact Or.inl rfl | exact Or.inr rfl) (pe_op (kAdd K) (pv 1) (pe_lc (own := [("part", 5)]) (g := gName 5) (tt := tYes) rfl sc_law_due.nd (pi_tupK K (pe_revK K (pe_ix (kIx K) (pv 4) pe_int (fun _ _ => rfl)))) (blkOk_by (own := [("part", 5)]) (N := ["thing", "left", "count", "turn", "joint", "part"]) (sc := defScope s_law_due) (by decide +kernel)) (fun _ _ _ _ _ => (pg_name (i := 5) sc_law_due.nd rfl (by first | exact Or.inl rfl | exact Or.inr rfl))) (fun _ _ _ _ _ => pts_nil) (fun _ _ _ _ _ => (pv 5))))) (pss_one (ps_set (i := 2) sc_law_due.nd rfl (by first | exact Or.inl rfl | exact Or.inr rfl) (pe_op (kAdd K) (pv 2) pe_int)))))))))))) (pss_one (ps_ret (pe_tup (pa_cons pe_str (pa_cons (pv 0) pa_nil))))))), ?_⟩
  refine st0 [some v, none, none, none, none, none] rfl ?_
  walk_at "go"
  refine ⟨lk rfl, fun a0 ha0 => ?_⟩
  walk_at "go"
  refine forR (fun i σ H' => ∃ (a : Addr) (st : List PyData) (xs : List V) (m : Nat) (o1 o2 : Option V), σ = [some v, some (.ref a), some (.int i), o1, o2, none] ∧ Same H H' ∧ H' a = some (.lst xs) ∧ H a = none ∧ Rps K H' xs st.reverse ∧ dats st ∧ i ≤ 40 ∧ m + i = 42 ∧ walk m st i = walk 42 [d] 0 ∧ xs.length ≤ 1 + 1000 * i)
    ⟨a0, [d], [v], 42, none, none, rfl, same_new ha0 _, upd_same, ha0, .one (r.mono (Ext.new ha0) _ _), ⟨hd, trivial⟩, by omega, by omega, rfl, by simp⟩ ?_ ?_
  rotate_left
  · rintro σ H' ⟨a, st, xs, m, o1, o2, rfl, s', ea, hna, hR, hd', i40, _⟩
    exact absurd i40 (by decide)
  rintro i σ H' hi ⟨a, st, xs, m, o1, o2, rfl, s', ea, hna, hR, hd', i40, im, ew, hl⟩
  walk_at "go"
  refine ⟨lk rfl, fun p1 hp1 => ?_⟩
  have n1 : a ≠ p1 := ne_of_none ea hp1
  have s1 := Same.new (o := .lst []) s' hp1
  have ea1 : upd H' p1 (.lst []) a = some (.lst xs) := by rw [upd_ne n1]; exact ea
  have hR1 := hR.mono (Ext.new (o := .lst []) hp1) _ _
  have hnil : SqL K (upd H' p1 (.lst [])) p1 [] := SqL.of upd_same
  generalize upd H' p1 (.lst []) = H1 at *
  refine g_eqD (d := .list st.reverse) (e := .list []) (.lst (SqL.of ea1) (Rps.dp _ _ hR1)) (.lst hnil .nil) (by simp only [PyData.canLay0]; exact dats_lay _ (dats_reverse hd')) (by simp [PyData.canLay0, PyData.canLayAll0]) (by simp only [PyData.depth, PyData.depthAll]; omega) ?_
  rw [eqv_nil]
  walk_at "go"
  match st, hR1, hd', ew with
  | [], hR1, hd', ew =>
    refine iteT ?_
    walk_at "go"
    rw [walk_none] at ew
    exact ⟨lk rfl, fun p hp => q _ p (Same.new s1 hp) (.inl ⟨ew.symm, upd_same⟩)⟩
  | j :: r0, hR1, hd', ew =>
    have hne : (j :: r0).reverse.isEmpty = false := by rw [List.reverse_cons]; cases r0.reverse <;> rfl
    rw [hne]
    refine iteF ?_
    have hR' := hR1
    rw [List.reverse_cons] at hR'
    have hlen := hR1.length
    have e2 : (r0.reverse ++ [j])[xs.length - 1]? = some j := by
      rw [hlen, List.reverse_cons, List.length_append]
      simp
    obtain ⟨u, eu, ru⟩ := hR'.get e2
    walk_at "go"
    refine u_pop ea1 eu ?_
    have xD : Ext K H1 (upd H1 a (.lst xs.dropLast)) := Ext.set ea1 trivial
    have s2 : Same H (upd H1 a (.lst xs.dropLast)) := Same.upd_new s1 hna
    have hDr : Rps K (upd H1 a (.lst xs.dropLast)) xs.dropLast r0.reverse := by
      have h3 := hR'.dropLast
      rw [List.dropLast_concat] at h3
      exact h3.mono xD _ _
    have ru2 := ru.mono xD _ _
    have ea2 : (upd H1 a (.lst xs.dropLast)) a = some (.lst xs.dropLast) := upd_same
    generalize upd H1 a (.lst xs.dropLast) = H2 at *
    have dj : dat j := hd'.1
    obtain ⟨m', rfl⟩ : ∃ m', m = m' + 1 := ⟨m - 1, by omega⟩
    have res : ∀ f, jf j i = some f → walk 42 [d] 0 = some (f, fval f i) := fun f ef => by
      rw [← ew, walk_step, ef]
    walk_at "go"
    refine rd_split (fun c40 => ?_) (fun c40 => ?_)
    · have e40 : jf j i = some .many := by unfold jf; rw [if_pos (by omega)]
      walk_at "go"
      exact ⟨lk rfl, fun p hp => fin _ _ (res _ e40) H2 s2 p hp⟩
    have i39 : (i : Int) < 40 := by omega
    have prog : ∀ H4 : Hp, Same H H4 → ¬ (∃ op told parts, j = .tuple [.str op, .tuple told, .tuple parts]) → ∀ p, H4 p = none → Q (.ref p) (upd H4 p (.tup [.str "program", .int i])) := fun H4 s4 c p hp => fin _ _ (res _ (jf_prog i39 c)) H4 s4 p hp
    walk_at "go"
    cases ru2 with
    | non => refine iteT ?_; walk_at "go"; exact ⟨lk rfl, fun p hp => prog _ s2 (fun ⟨_, _, _, z⟩ => nomatch z) p hp⟩
    | bl b => refine iteT ?_; walk_at "go"; exact ⟨lk rfl, fun p hp => prog _ s2 (fun ⟨_, _, _, z⟩ => nomatch z) p hp⟩
    | int k => refine iteT ?_; walk_at "go"; exact ⟨lk rfl, fun p hp => prog _ s2 (fun ⟨_, _, _, z⟩ => nomatch z) p hp⟩
    | str k => refine iteT ?_; walk_at "go"; exact ⟨lk rfl, fun p hp => prog _ s2 (fun ⟨_, _, _, z⟩ => nomatch z) p hp⟩
    | @tup aj xj dsj hsj hRj =>
    refine iteF ?_
    walk_at "go"
    refine rd_splitN (fun c3 => ?_) (fun c3 => ?_)
    · walk_at "go"
      refine ⟨lk rfl, fun p hp => prog _ s2 (fun ⟨_, _, _, z⟩ => ?_) p hp⟩
      cases z
      exact c3 (by rw [hRj.length] <;> rfl)
    obtain ⟨x, y, z, d1, d2, d3, rfl, rfl, r1, r2, r3⟩ := hRj.three c3
    walk_at "go"
    refine u_ixT hsj rfl ?_
    walk_at "go"
    cases h1 : isT "str" d1 with
    | false =>
      refine iteT ?_
      walk_at "go"
      refine ⟨lk rfl, fun p hp => prog _ s2 (fun ⟨_, _, _, z⟩ => ?_) p hp⟩
      cases z
      cases h1
    | true =>
    obtain ⟨op, rfl⟩ := isT_str h1
    refine iteF ?_
    walk_at "go"
    refine u_ixT hsj rfl ?_
    walk_at "go"
    cases h2 : isT "tuple" d2 with
    | false =>
      refine iteT ?_
      walk_at "go"
      refine ⟨lk rfl, fun p hp => prog _ s2 (fun ⟨_, _, _, z⟩ => ?_) p hp⟩
      cases z
      cases h2
    | true =>
    obtain ⟨told, rfl⟩ := isT_tuple h2
    refine iteF ?_
    walk_at "go"
    refine u_ixT hsj rfl ?_
    walk_at "go"
    cases h3 : isT "tuple" d3 with
    | false =>
      refine iteT ?_
      walk_at "go"
      refine ⟨lk rfl, fun p hp => prog _ s2 (fun ⟨_, _, _, z⟩ => ?_) p hp⟩
      cases z
      cases h3
    | true =>
    obtain ⟨parts, rfl⟩ := isT_tuple h3
    refine iteF ?_
    have dj2 : told.length ≤ 1000 ∧ dats told := dj.2.2.1
    have dj3 : parts.length ≤ 1000 ∧ dats parts := dj.2.2.2.1
    cases r1
    cases r2 with
    | @tup a2 xs2 ds2 hs2 hR2 =>
    cases r3 with
    | @tup a3 xs3 ds3 hs3 hR3 =>
    walk_at "go"
    refine u_ixT hsj rfl ?_
    walk_at "go"
    refine u_ixT hsj rfl ?_
    walk_at "go"
    refine use_fits hs2 hR2 dj2.1 dj2.2 fun H3 s3 => ?_
    have hsj3 := Ext.of_same s3 _ _ hsj
    have hs33 := Ext.of_same s3 _ _ hs3
    have hR33 := hR3.mono (Ext.of_same s3) _ _
    walk_at "go"
    have n40 : ¬ (40 : Int) ≤ i := by omega
    cases e1 : toldFits op told with
    | false =>
      refine iteT ?_
      walk_at "go"
      have ej : jf (.tuple [.str op, .tuple told, .tuple parts]) i = some .op := by unfold jf; rw [if_neg n40]; simp only [e1]; rfl
      exact ⟨lk rfl, fun p hp => fin _ _ (res _ ej) _ (s2.trans s3) p hp⟩
    | true =>
    refine iteF ?_
    obtain ⟨lo, hi2, ear⟩ := fits_arity e1
    walk_at "go"
    refine u_ixT hsj3 rfl ?_
    walk_at "go"
    refine u_ixT hsj3 rfl ?_
    walk_at "go"
    have lp := hR33.length
    refine ⟨op, _, lo, hi2, rfl, ear, fun H4 s4 => ?_⟩
    rw [lp]
    have hsj4 := Ext.of_same s4 _ _ hsj3
    have hs34 := Ext.of_same s4 _ _ hs33
    have hR34 := hR33.mono (Ext.of_same s4) _ _
    walk_at "go"
    cases e2 : partsFit op parts.length with
    | false =>
      refine iteT ?_
      walk_at "go"
      have ej : jf (.tuple [.str op, .tuple told, .tuple parts]) i = some .parts := by unfold jf; rw [if_neg n40]; simp only [e1, e2]; rfl
      exact ⟨lk rfl, fun p hp => fin _ _ (res _ ej) _ ((s2.trans s3).trans s4) p hp⟩
    | true =>
    refine iteF ?_
    have ej : jf (.tuple [.str op, .tuple told, .tuple parts]) i = none := by unfold jf; rw [if_neg n40]; simp only [e1, e2]; rfl
    have s24 : Same H2 H4 := s3.trans s4
    have ea4 := s24 _ _ ea2
    have hDr4 := hDr.mono (Ext.of_same s24) _ _
    have sH4 : Same H H4 := s2.trans s24
    walk_at "go"
    refine u_ixT hsj4 rfl ?_
    refine rd_revT hs34 ?_
    intro b hb
    have sH5 := Same.new (o := .tup xs3.reverse) sH4 hb
    have ea5 : upd H4 b (.tup xs3.reverse) a = some (.lst xs.dropLast) := by rw [upd_ne (ne_of_none ea4 hb)]; exact ea4
    have hDr5 := hDr4.mono (Ext.new (o := .tup xs3.reverse) hb) _ _
    have hR35 := hR34.reverse.mono (Ext.new (o := .tup xs3.reverse) hb) _ _
    have hsb : SqT K (upd H4 b (.tup xs3.reverse)) b xs3.reverse := SqT.of upd_same
    generalize upd H4 b (.tup xs3.reverse) = H5 at *
    walk_at "go"
    intro D hD
    refine lc_tup (K := K) (a := b) (xs := xs3.reverse) (fun k H' => ∃ ws, H' D = some (.lst ws) ∧ Rps K H' ws (parts.reverse.take k) ∧ Same H5 H') ⟨[], upd_same, .nil, Same.upd_new (Same.refl H5) hD⟩ ?_ ?_ ?_
    · rintro k H' hk ⟨ws, g1, g2, g3⟩
      exact Ext.of_same g3 _ _ hsb
    · rintro k x H' hx ⟨ws, g1, g2, g3⟩
      obtain ⟨dk, k1, k2⟩ := hR35.getV hx
      walk_at "go"
      refine ⟨rfl, ?_⟩
      walk_at "go"
      refine ⟨ws, g1, ?_, ws ++ [x], upd_same, ?_, Same.upd_new g3 hD⟩
      · rw [g2.length, List.length_take, List.length_reverse]
        exact ls (by omega)
      · rw [List.take_add_one, k1]
        exact (g2.append (.one (k2.mono (Ext.of_same g3) _ _))).mono (Ext.set g1 trivial) _ _
    rintro H6 ⟨ws, g1, g2, g3⟩
    rw [List.length_reverse, lp, List.take_of_length_le (by rw [List.length_reverse]; exact Nat.le_refl _)] at g2
    have ea6 := g3 _ _ ea5
    have hDr6 := hDr5.mono (Ext.of_same g3) _ _
    have lw := g2.length
    rw [List.length_reverse] at lw
    refine u_addL ea6 g1 ?_ fun p hp => ?_
    · rw [List.length_dropLast, lw]
      exact ll (by omega)
    walk_at "go"
    refine ⟨p, parts ++ r0, xs.dropLast ++ ws, m', _, _, rfl, Same.new (sH5.trans g3) hp, upd_same, ?_, ?_, dats_append dj3.2 hd'.2, by omega, by omega, ?_, ?_⟩
    · cases hh : H p with
      | none => rfl
      | some o => rw [(sH5.trans g3) _ _ hh] at hp; cases hp
    · rw [List.reverse_append]
      exact (hDr6.append g2).mono (Ext.new hp) _ _
    · rw [← ew, walk_step, ej]
      rfl
    · rw [List.length_append, List.length_dropLast, lw]
      omega
end
end Mine

/-! ### L4 -/
set_option maxHeartbeats 1000000
namespace Mine
open PySem PySem.Spec L2
local macro_rules | `(tactic| walk_at "st") => `(tactic| first
  | ((with_reducible apply rd_var); exact rfl)
  | (with_reducible apply rd_c)
  | (with_reducible apply rd_seq)
  | (with_reducible apply rd_asg)
  | (with_reducible apply rd_gname)
  | (with_reducible apply rd_op)
  | (with_reducible apply rd_cb)
  | (with_reducible apply rd_cons)
  | (with_reducible apply rd_nil)
  | (with_reducible apply rd_if)
  | (with_reducible apply rd_test)
  | (with_reducible apply rd_bl)
  | (with_reducible apply rd_retE)
  | (with_reducible apply rd_ret)
  | (with_reducible apply rd_call)
  | (with_reducible apply rd_tup)
  | (with_reducible apply rd_lst)
  | (with_reducible apply rd_drop)
  | (with_reducible apply rd_next)
  | (with_reducible apply rd_ife)
  | (with_reducible apply rd_gsub)
  | (with_reducible apply rd_par)
  | (with_reducible apply rd_par_end)
  | (with_reducible apply rd_un)
  | (with_reducible apply rd_and)
  | (with_reducible apply rd_or)
  | (with_reducible apply rd_not)
  | (with_reducible apply rd_andV)
  | (with_reducible apply rd_orV)
  | (with_reducible apply rd_notV)
  | (with_reducible apply rd_chain)
  | (with_reducible apply rd_tB)
  | (with_reducible apply rd_brk)
  | (with_reducible apply rd_ct)
  | (with_reducible apply u_add)
  | (with_reducible apply u_sub)
  | (with_reducible apply u_lt)
  | (with_reducible apply u_le)
  | (with_reducible apply u_gt)
  | (with_reducible apply u_ge)
  | (with_reducible apply u_eqI)
  | (with_reducible apply u_eqS)
  | (with_reducible apply u_neI)
  | (with_reducible apply u_int)
  | (with_reducible apply u_intB)
  | (with_reducible apply u_max)
  | (with_reducible apply u_min)
  | (with_reducible apply u_neg)
  | ((with_reducible apply u_mod); focus first | assumption | decide | omega)
  | ((with_reducible apply u_div); focus first | decide | omega | (constructor <;> first | assumption | omega))
  | ((with_reducible apply u_mul); focus first | exact Or.inl (by omega) | exact Or.inr (by omega) | exact Or.inl (by decide) | exact Or.inr (by decide))
  | ((with_reducible apply u_ixL); (focus (first | assumption | exact SqL.of (by assumption) | exact SqL.of upd_same)); exact rfl)
  | ((with_reducible apply u_lenL); focus (first | assumption | exact SqL.of (by assumption) | exact SqL.of upd_same))
  | ((with_reducible apply u_lenT); focus (first | assumption | exact SqT.of (by assumption) | exact SqT.of upd_same))
  | ((with_reducible apply u_setL); (focus (first | assumption | exact upd_same)); exact rfl)
  | (with_reducible apply rd_chain3)
  | (with_reducible apply rd_tru)
  | (with_reducible apply rd_truB)
  | ((with_reducible apply rd_truL); focus (first | assumption | exact SqL.of (by assumption) | exact SqL.of upd_same))
  | (with_reducible apply rd_bm)
  | (with_reducible apply rd_bm0)
  | ((with_reducible apply rd_tyL); focus (first | exact SqL.of (by assumption) | exact SqL.of upd_same))
  | (with_reducible apply u_min3)
  | (with_reducible apply rd_rev)
  | (with_reducible apply rd_iList)
  | (with_reducible apply rd_iTup)
  | (with_reducible apply rd_for)
  | (with_reducible apply rd_rng1)
  | (with_reducible apply rd_rng2)
  | ((with_reducible apply rd_rng1e); (focus omega); (focus omega))
  | ((with_reducible apply rd_rng2e); (focus omega))
  | (with_reducible apply rd_gcons)
  | (with_reducible apply rd_gnil)
  | (with_reducible apply rd_retN)
  | (with_reducible apply g_eqI)
  | (with_reducible apply g_eqS)
  | (with_reducible apply g_neI)
  | (with_reducible apply g_neS)
  | (with_reducible apply g_neB)
  | (with_reducible apply rd_xf)
  | (with_reducible apply rd_raiseE)
  | (with_reducible apply rd_callS)
  | (with_reducible apply u_inD)
  | (with_reducible apply u_notInD)
  | (with_reducible apply u_inS)
  | (with_reducible apply u_notInS)
  | (with_reducible apply rd_iSeq)
  | ((with_reducible apply rd_seqL); (focus first | assumption | exact SqL.of (by assumption) | exact SqL.of upd_same))
  | ((with_reducible apply rd_seqT); (focus first | assumption | exact SqT.of (by assumption) | exact SqT.of upd_same))
  | (with_reducible apply rd_istr)
  | (with_reducible apply rd_istrE)
  | ((with_reducible apply u_isi); (focus (first | exact Or.inl rfl | exact Or.inr (Or.inl rfl) | exact Or.inr (Or.inr (Or.inl rfl)) | exact Or.inr (Or.inr (Or.inr rfl)))); (focus first | assumption | exact Rp.int _ | exact Rp.str _))
  | ((with_reducible apply rd_itL); (focus first | assumption | exact SqL.of (by assumption) | exact SqL.of upd_same))
  | ((with_reducible apply rd_itT); (focus first | assumption | exact SqT.of (by assumption) | exact SqT.of upd_same))
  | (with_reducible apply rd_lc)
  | (with_reducible apply rd_yes)
  | ((with_reducible apply u_pow); (focus (exact ⟨by decide, by decide, by decide⟩)))
  | (with_reducible apply u_mul; focus exact Or.inr cm)
  | (with_reducible apply rd_par3)
  | (with_reducible apply rd_par3_end)
  | ((with_reducible apply rd_aug); exact rfl)
  | (with_reducible apply rd_ipI)
  | (with_reducible apply iteT)
  | (with_reducible apply iteF))
local macro_rules | `(tactic| walk_at "go") => `(tactic| repeat (walk_at "st"))
local macro_rules | `(tactic| walk_at "sp") => `(tactic| (first | refine rd_split (fun c => ?_) (fun c => ?_) | refine rd_splitN (fun c => ?_) (fun c => ?_) | refine rd_splitB (fun c => ?_) (fun c => ?_)))
local macro_rules | `(tactic| walk_at "nx") => `(tactic| repeat (first | (with_reducible apply iteF) | (with_reducible apply iteT) | (with_reducible apply rd_next)))

section
variable {P : Program} {w : World} {K : PySem.W.Frag} {mg : Str → Option Value} {base : Heap}
def spLeaf (K : PySem.W.Frag) : Sp := fun vs H Q _ => ∃ (a : Addr) (k : Int), vs = [.ref a, .int k] ∧ Src H a ∧ 1 ≤ k ∧ k ≤ 64 ∧
  ∀ (H' : Hp) (v : V) (j : Jn), SB a H H' → Src H' a → Rp K H' v j.py → j.ok → j.cnt = 1 → Q v H'
theorem use_leaf {K : PySem.W.Frag} {a : Addr} {k : Int} {H : Hp} {Q : VK} {E : XK} (h : Src H a) (h1 : 1 ≤ k) (h2 : k ≤ 64) (q : ∀ (H' : Hp) (v : V) (j : Jn), SB a H H' → Src H' a → Rp K H' v j.py → j.ok → j.cnt = 1 → Q v H') : spLeaf K [.ref a, .int k] H Q E := ⟨a, k, rfl, h, h1, h2, q⟩
theorem okS_in : okS (Str.ofString "in") := okS_of (by decide +kernel) (by decide +kernel)
theorem okS_row : okS (Str.ofString "row") := okS_of (by decide +kernel) (by decide +kernel)
theorem nameOf_ok {k : Int} {z : Str} (h : NameOf k z) (h0 : 0 ≤ k) (h1 : k ≤ 64) : okS z := by
  obtain ⟨c1, c2, rest, e, e1, e2, l, lo⟩ := h
  have lz : z.length = rest.length + 2 := by rw [len_list, e]; rfl
  refine ⟨by omega, ?_⟩
  simp only [PyData.canLay0, PyData.strOk, Array.all_eq_true_iff_forall_mem, decide_eq_true_eq]
  intro c hc
  have hc' : c ∈ z.cps.toList := by simpa using hc
  rw [e] at hc'
  rcases List.mem_cons.mp hc' with rfl | hc'
  · omega
  rcases List.mem_cons.mp hc' with rfl | hc'
  · omega
  · have := lo c hc'
    omega
abbrev s_law_leaf : Stmt := top 39
theorem sc_law_leaf : FnScope ["source", "k", "turn"] ["source", "k"] (defScope s_law_leaf) := ⟨rfl, rfl, rfl, by decide +kernel, rfl, by decide +kernel, by decide +kernel⟩
theorem has_leaf (O : OwnF K mg "_law_leaf" s_law_leaf) (B : Bl mg) (h_law_take : HasF P w K mg base CX0 1 "_law_take" ["source", "top"] spTake) (h_law_name : HasF P w K mg base CX0 2 "_law_name" ["source", "k"] spName) (h_law_digit : HasF P w K mg base CX0 3 "_law_digit" ["source"] spDigit) : HasF P w K mg base CX0 4 "_law_leaf" ["source", "k"] (spLeaf K) := by
  refine has0 O sc_law_leaf (fun _ _ _ _ _ _ us hl => match us, hl with | [_, _], _ => rfl) (fun vs H Q E h => ?_) (fun f cdv A outer s_ H vs Q E hr h => ?_)
  · obtain ⟨a, k, rfl, _⟩ := h
    rfl
  obtain ⟨a, k, rfl, hS, hk1, hk2, q⟩ := h
  refine ⟨_, (pss_cons (ps_if (pt_cmpR (kEqG K (hU hr)) (pe_callH h_law_take (hr.mono (by first | decide | omega)) (by rfl) pass0 (pa_cons (pv 0) (pa_cons pe_int pa_nil))) pe_int (nomark _)) (pss_one (ps_ret (pe_tup (pa_cons pe_str (pa_cons (pe_tup (pa_cons (pe_callH h_law_name (hr.mono (by first | decide | omega)) (by rfl) pass0 (pa_cons (pv 0) (pa_cons (pv 1) pa_nil))) (pa_cons (pv 1) pa_nil))) (pa_cons (pe_tup pa_nil) pa_nil)))))) pss_nil) (pss_one (ps_ret (pe_tup (pa_cons pe_str (pa_cons (pe_callTy (kTup K) (by rfl) B.tuple (by decide +kernel) (pa_cons (pe_lc (own := [("turn", 2)]) (g := gName 2) (tt := tYes) rfl sc_law_leaf.nd (pi_range1 (by rfl) B.range (pa_cons (pv 1) pa_nil)) (blkOk_by (own := [("turn", 2)]) (N := ["source", "k", "turn"]) (sc := defScope s_law_leaf) (by decide +kernel)) (fun _ _ _ _ _ => (pg_name (i := 2) sc_law_leaf.nd rfl (by first | exact Or.inl rfl | exact Or.inr rfl))) (fun _ _ _ _ _ => pts_nil) (fun _ _ _ _ _ => (pe_callH h_law_digit (hr.mono (by first | decide | omega)) (by rfl) pass0 (pa_cons (pv 0) pa_nil)))) pa_nil)) (pa_cons (pe_tup pa_nil) pa_nil))))))), ?_⟩
  refine st0 [some (.ref a), some (.int k), none] rfl ?_
  walk_at "go"
  refine use_take hS (by omega) (by omega) fun H1 r1 s1 hS1 h10 h11 => ?_
  walk_at "go"
  refine rd_split (fun c => ?_) (fun c => ?_)
  · walk_at "go"
    refine use_name hS1 (by omega) (by omega) fun H2 z s2 hS2 hz => ?_
    walk_at "go"
    refine ⟨lk rfl, fun p hp => ?_⟩
    walk_at "go"
    refine ⟨lk rfl, fun p2 hp2 => ?_⟩
    walk_at "go"
    refine ⟨lk rfl, fun p3 hp3 => ?_⟩
    have e1 : (upd (upd H2 p (.tup [.str z, .int k])) p2 (.tup [])) p = some (.tup [.str z, .int k]) := by rw [upd_ne (ne_of_none upd_same hp2)]; exact upd_same
    refine q _ _ (.mk (Str.ofString "in") [.str z, .int k] []) ((s1.trans s2).trans (((SB.refl.new hp).new hp2).new hp3)) (((hS2.new hp).new hp2).new hp3) (mkJ (SqT.of e1) (.cons (.str z) (.cons (.int k) .nil)) (SqT.of upd_same) .nil hp3) ?_ rfl
    simp only [Jn.ok, Jn.oks]
    refine ⟨okS_in, by simp, fun d hd => ?_, by simp, trivial⟩
    have hd' : d = .str z ∨ d = .int k := by simpa using hd
    rcases hd' with rfl | rfl
    · exact nameOf_ok hz (by omega) hk2
    · exact trivial
  · walk_at "go"
    intro D hD
    have nD := hS1.ne hD
    refine lc_range (lo := 0) (n := k.toNat) (fun i H' => ∃ ns : List Int, H' D = some (.lst (ns.map V.int)) ∧ ns.length = i ∧ SB a H H' ∧ Src H' a) ⟨[], upd_same, rfl, s1.new hD, hS1.new hD⟩ ?_ ?_
    · rintro i H' hi ⟨ns, g1, g2, g3, g4⟩
      walk_at "go"
      refine ⟨rfl, ?_⟩
      walk_at "go"
      refine use_digit g4 fun H2 r s2 hS2 r0 r1 => ?_
      have g5 := s2 _ _ nD g1
      refine ⟨_, g5, ?_, ns ++ [r], ?_, ?_, ?_, hS2.set nD⟩
      · rw [List.length_map, g2]; exact ls (by omega)
      · rw [upd_same, List.map_append] <;> rfl
      · rw [List.length_append, g2] <;> rfl
      · intro b o nb hb
        have hDH : H D = none := by
          cases hh : H D with
          | none => rfl
          | some o => rw [s1 _ _ nD hh] at hD; cases hD
        rw [upd_ne (ne_of_none hb hDH)]
        exact s2 _ _ nb (g3 _ _ nb hb)
    · rintro H2 ⟨ns, g1, g2, g3, g4⟩
      walk_at "go"
      refine u_tupL (SqL.of g1) fun t ht => ?_
      walk_at "go"
      refine ⟨lk rfl, fun p2 hp2 => ?_⟩
      walk_at "go"
      refine ⟨lk rfl, fun p3 hp3 => ?_⟩
      have e1 : (upd (upd H2 t (.tup (ns.map V.int))) p2 (.tup [])) t = some (.tup (ns.map V.int)) := by rw [upd_ne (ne_of_none upd_same hp2)]; exact upd_same
      refine q _ _ (.mk (Str.ofString "row") (ns.map PyData.int) []) (((g3.new ht).new hp2).new hp3) (((g4.new ht).new hp2).new hp3) (mkJ (SqT.of e1) (Rps.ints ns) (SqT.of upd_same) .nil hp3) ?_ rfl
      simp only [Jn.ok, Jn.oks]
      refine ⟨okS_row, by rw [List.length_map, g2]; omega, fun d hd => ?_, by simp, trivial⟩
      obtain ⟨n, _, rfl⟩ := List.mem_map.mp hd
      exact trivial
end
end Mine

/-! ### L5 -/
set_option maxHeartbeats 1000000
namespace Mine
open PySem PySem.Spec L2
local macro_rules | `(tactic| walk_at "st") => `(tactic| first
  | ((with_reducible apply rd_var); exact rfl)
  | (with_reducible apply rd_c)
  | (with_reducible apply rd_seq)
  | (with_reducible apply rd_asg)
  | (with_reducible apply rd_gname)
  | (with_reducible apply rd_op)
  | (with_reducible apply rd_cb)
  | (with_reducible apply rd_cons)
  | (with_reducible apply rd_nil)
  | (with_reducible apply rd_if)
  | (with_reducible apply rd_test)
  | (with_reducible apply rd_bl)
  | (with_reducible apply rd_retE)
  | (with_reducible apply rd_ret)
  | (with_reducible apply rd_call)
  | (with_reducible apply rd_tup)
  | (with_reducible apply rd_lst)
  | (with_reducible apply rd_drop)
  | (with_reducible apply rd_next)
  | (with_reducible apply rd_ife)
  | (with_reducible apply rd_gsub)
  | (with_reducible apply rd_par)
  | (with_reducible apply rd_par_end)
  | (with_reducible apply rd_un)
  | (with_reducible apply rd_and)
  | (with_reducible apply rd_or)
  | (with_reducible apply rd_not)
  | (with_reducible apply rd_andV)
  | (with_reducible apply rd_orV)
  | (with_reducible apply rd_notV)
  | (with_reducible apply rd_chain)
  | (with_reducible apply rd_tB)
  | (with_reducible apply rd_brk)
  | (with_reducible apply rd_ct)
  | (with_reducible apply u_add)
  | (with_reducible apply u_sub)
  | (with_reducible apply u_lt)
  | (with_reducible apply u_le)
  | (with_reducible apply u_gt)
  | (with_reducible apply u_ge)
  | (with_reducible apply u_eqI)
  | (with_reducible apply u_eqS)
  | (with_reducible apply u_neI)
  | (with_reducible apply u_int)
  | (with_reducible apply u_intB)
  | (with_reducible apply u_max)
  | (with_reducible apply u_min)
  | (with_reducible apply u_neg)
  | ((with_reducible apply u_mod); focus first | assumption | decide | omega)
  | ((with_reducible apply u_div); focus first | decide | omega | (constructor <;> first | assumption | omega))
  | ((with_reducible apply u_mul); focus first | exact Or.inl (by omega) | exact Or.inr (by omega) | exact Or.inl (by decide) | exact Or.inr (by decide))
  | ((with_reducible apply u_ixL); (focus (first | assumption | exact SqL.of (by assumption) | exact SqL.of upd_same)); exact rfl)
  | ((with_reducible apply u_lenL); focus (first | assumption | exact SqL.of (by assumption) | exact SqL.of upd_same))
  | ((with_reducible apply u_lenT); focus (first | assumption | exact SqT.of (by assumption) | exact SqT.of upd_same))
  | ((with_reducible apply u_setL); (focus (first | assumption | exact upd_same)); exact rfl)
  | (with_reducible apply rd_chain3)
  | (with_reducible apply rd_tru)
  | (with_reducible apply rd_truB)
  | ((with_reducible apply rd_truL); focus (first | assumption | exact SqL.of (by assumption) | exact SqL.of upd_same))
  | (with_reducible apply rd_bm)
  | (with_reducible apply rd_bm0)
  | ((with_reducible apply rd_tyL); focus (first | exact SqL.of (by assumption) | exact SqL.of upd_same))
  | (with_reducible apply u_min3)
  | (with_reducible apply rd_rev)
  | (with_reducible apply rd_iList)
  | (with_reducible apply rd_iTup)
  | (with_reducible apply rd_for)
  | (with_reducible apply rd_rng1)
  | (with_reducible apply rd_rng2)
  | ((with_reducible apply rd_rng1e); (focus omega); (focus omega))
  | ((with_reducible apply rd_rng2e); (focus omega))
  | (with_reducible apply rd_gcons)
  | (with_reducible apply rd_gnil)
  | (with_reducible apply rd_retN)
  | (with_reducible apply g_eqI)
  | (with_reducible apply g_eqS)
  | (with_reducible apply g_neI)
  | (with_reducible apply g_neS)
  | (with_reducible apply g_neB)
  | (with_reducible apply rd_xf)
  | (with_reducible apply rd_raiseE)
  | (with_reducible apply rd_callS)
  | (with_reducible apply u_inD)
  | (with_reducible apply u_notInD)
  | (with_reducible apply u_inS)
  | (with_reducible apply u_notInS)
  | (with_reducible apply rd_iSeq)
  | ((with_reducible apply rd_seqL); (focus first | assumption | exact SqL.of (by assumption) | exact SqL.of upd_same))
  | ((with_reducible apply rd_seqT); (focus first | assumption | exact SqT.of (by assumption) | exact SqT.of upd_same))
  | (with_reducible apply rd_istr)
  | (with_reducible apply rd_istrE)
  | ((with_reducible apply u_isi); (focus (first | exact Or.inl rfl | exact Or.inr (Or.inl rfl) | exact Or.inr (Or.inr (Or.inl rfl)) | exact Or.inr (Or.inr (Or.inr rfl)))); (focus first | assumption | exact Rp.int _ | exact Rp.str _))
  | ((with_reducible apply rd_itL); (focus first | assumption | exact SqL.of (by assumption) | exact SqL.of upd_same))
  | ((with_reducible apply rd_itT); (focus first | assumption | exact SqT.of (by assumption) | exact SqT.of upd_same))
  | (with_reducible apply rd_lc)
  | (with_reducible apply rd_yes)
  | ((with_reducible apply u_pow); (focus (exact ⟨by decide, by decide, by decide⟩)))
  | (with_reducible apply u_mul; focus exact Or.inr cm)
  | (with_reducible apply rd_par3)
  | (with_reducible apply rd_par3_end)
  | ((with_reducible apply rd_aug); exact rfl)
  | (with_reducible apply rd_ipI)
  | (with_reducible apply iteT)
  | (with_reducible apply iteF))
local macro_rules | `(tactic| walk_at "go") => `(tactic| repeat (walk_at "st"))
local macro_rules | `(tactic| walk_at "sp") => `(tactic| (first | refine rd_split (fun c => ?_) (fun c => ?_) | refine rd_splitN (fun c => ?_) (fun c => ?_) | refine rd_splitB (fun c => ?_) (fun c => ?_)))
local macro_rules | `(tactic| walk_at "nx") => `(tactic| repeat (first | (with_reducible apply iteF) | (with_reducible apply iteT) | (with_reducible apply rd_next)))

section
variable {P : Program} {w : World} {K : PySem.W.Frag} {mg : Str → Option Value} {base : Heap}
/-- a joint of size k, of up to left joints; n calls may stand one in the other -/
def spJ (K : PySem.W.Frag) (n : Nat) : Sp := fun vs H Q _ => ∃ (a : Addr) (k left : Int), vs = [.ref a, .int k, .int left] ∧ Src H a ∧ 1 ≤ k ∧ k ≤ 64 ∧ 1 ≤ left ∧ left ≤ n ∧ left ≤ 40 ∧
  ∀ (H' : Hp) (v : V) (j : Jn), SB a H H' → Src H' a → Rp K H' v j.py → j.ok → (j.cnt : Int) ≤ left → Q v H'
theorem use_j {K : PySem.W.Frag} {n : Nat} {a : Addr} {k left : Int} {H : Hp} {Q : VK} {E : XK} (h : Src H a) (h1 : 1 ≤ k) (h2 : k ≤ 64) (h3 : 1 ≤ left) (h4 : left ≤ n) (h5 : left ≤ 40) (q : ∀ (H' : Hp) (v : V) (j : Jn), SB a H H' → Src H' a → Rp K H' v j.py → j.ok → (j.cnt : Int) ≤ left → Q v H') :
    spJ K n [.ref a, .int k, .int left] H Q E := ⟨a, k, left, rfl, h, h1, h2, h3, h4, h5, q⟩
def spCt (K : PySem.W.Frag) (n : Nat) : Sp := fun vs H Q _ => ∃ (a : Addr) (k left : Int), vs = [.ref a, .int k, .int left] ∧ Src H a ∧ 2 ≤ k ∧ k ≤ 64 ∧ 3 ≤ left ∧ left ≤ n ∧ left ≤ 40 ∧
  ∀ (H' : Hp) (v : V) (j : Jn), SB a H H' → Src H' a → Rp K H' v j.py → j.ok → (j.cnt : Int) ≤ left → Q v H'
def spFk (K : PySem.W.Frag) (n : Nat) : Sp := fun vs H Q _ => ∃ (a : Addr) (k left kind : Int), vs = [.ref a, .int k, .int left, .int kind] ∧ Src H a ∧ 1 ≤ k ∧ k ≤ 64 ∧ 3 ≤ left ∧ left ≤ n ∧ left ≤ 40 ∧
  ∀ (H' : Hp) (v : V) (j : Jn), SB a H H' → Src H' a → Rp K H' v j.py → j.ok → (j.cnt : Int) ≤ left → Q v H'
theorem okS_cat : okS (Str.ofString "cat") := okS_of (by decide +kernel) (by decide +kernel)
abbrev s_law_catted : Stmt := top 42
theorem sc_law_catted : FnScope ["source", "k", "left", "many", "rest", "parts", "turn", "own"] ["source", "k", "left"] (defScope s_law_catted) := ⟨rfl, rfl, rfl, by decide +kernel, rfl, by decide +kernel, by decide +kernel⟩
theorem step_catted {n l : Nat} (hl : 1 ≤ l) (O : OwnF K mg "_law_catted" s_law_catted) (B : Bl mg) (h_law_take : HasF P w K mg base CX0 1 "_law_take" ["source", "top"] spTake) (h_law_joint : HasF P w K mg base CX0 l "_law_joint" ["source", "k", "left"] (spJ K n)) : HasF P w K mg base CX0 (l + 1) "_law_catted" ["source", "k", "left"] (spCt K (n + 1)) := by
  refine has0 O sc_law_catted (fun _ _ _ _ _ _ us hl => match us, hl with | [_, _, _], _ => rfl) (fun vs H Q E h => ?_) (fun f cdv A outer s_ H vs Q E hr h => ?_)
  · obtain ⟨a, k, left, rfl, _⟩ := h
    rfl
  obtain ⟨a, k, left, rfl, hS, hk1, hk2, hl1, hl2, hl3, q⟩ := h
  refine ⟨_, (pss_cons (ps_set (i := 3) sc_law_catted.nd rfl (by first | exact Or.inl rfl | exact Or.inr rfl) (pe_callB (min3U rfl) (by rfl) B.min (by decide +kernel) (pa_cons (pv 1) (pa_cons (pe_op subU (pv 2) pe_int) (pa_cons (pe_op (kAdd K) pe_int (pe_callH h_law_take (hr.mono (by first | decide | omega)) (by rfl) pass0 (pa_cons (pv 0) (pa_cons pe_int pa_nil)))) pa_nil))))) (pss_cons (ps_par (i := 4) (j := 5) (by rfl) sc_law_catted.nd rfl rfl (by decide) rfl rfl (pa_cons (pv 1) (pa_cons (pe_lst pa_nil) pa_nil)) (by rfl)) (pss_cons (ps_for PassesOwn.never rfl (pi_range1 (by rfl) B.range (pa_cons (pv 3) pa_nil)) (pg_name (i := 6) sc_law_catted.nd rfl (by first | exact Or.inl rfl | exact Or.inr rfl)) (pss_cons (ps_set (i := 7) sc_law_catted.nd rfl (by first | exact Or.inl rfl | exact Or.inr rfl) (pe_ifExp (pt_cmpR (kEqG K (hU hr)) (pv 6) (pe_op subU (pv 3) pe_int) (nomark _)) (pv 4) (pe_op (kAdd K) pe_int (pe_callH h_law_take (hr.mono (by first | decide | omega)) (by rfl) pass0 (pa_cons (pv 0) (pa_cons (pe_op subU (pv 4) (pe_op subU (pe_op subU (pv 3) pe_int) (pv 6))) pa_nil)))))) (pss_cons (ps_expr (pe_bmK K PySem.F.plainAttrs_list PySem.F.slot_list_append PySem.F.type_list_append mt_append (pv 5) (pa_cons (pe_callH h_law_joint (hr.mono (by first | decide | omega)) (by rfl) pass0 (pa_cons (pv 0) (pa_cons (pv 7) (pa_cons (pe_op divU (pe_op subU (pv 2) pe_int) (pv 3)) pa_nil)))) pa_nil))) (pss_one (ps_set (i := 4) sc_law_catted.nd rfl (by first | exact Or.inl rfl | exact Or.inr rfl) (pe_op subU (pv 4) (pv 7))))))) (pss_one (ps_ret (pe_tup (pa_cons pe_str (pa_cons (pe_tup pa_nil) (pa_cons (pe_callTy (kTup K) (by rfl) B.tuple (by decide +kernel) (pa_cons (pv 5) pa_nil)) pa_nil))))))))), ?_⟩
  refine st0 [some (.ref a), some (.int k), some (.int left), none, none, none, none, none] rfl ?_
  walk_at "go"
  refine use_take hS (by omega) (by omega) fun H1 r1 s1 hS1 h10 h11 => ?_
  walk_at "go"
  have hm : ∃ many : Int, (if left - 1 < k then (if 2 + r1 < left - 1 then 2 + r1 else left - 1) else (if 2 + r1 < k then 2 + r1 else k)) = many ∧ 2 ≤ many ∧ many ≤ 4 ∧ many ≤ k ∧ many ≤ left - 1 := by
    refine ⟨_, rfl, ?_⟩
    split <;> split <;> omega
  obtain ⟨many, em, m1, m2, m3, m4⟩ := hm
  rw [em]
  refine ⟨lk rfl, fun p hp => ?_⟩
  have nP := hS1.ne hp
  have hpH : H p = none := by
    cases hh : H p with
    | none => rfl
    | some o => rw [s1 _ _ nP hh] at hp; cases hp
  walk_at "go"
  have hq : 1 ≤ (left - 1) / many ∧ (left - 1) / many ≤ n ∧ (left - 1) / many ≤ 40 ∧ many * ((left - 1) / many) ≤ left - 1 := by
    have g1 : 1 ≤ (left - 1) / many := by
      rw [Int.le_ediv_iff_mul_le (by omega)]
      omega
    have g2 : (left - 1) / many ≤ left - 1 := Int.ediv_le_self _ (by omega)
    have g3 : many * ((left - 1) / many) ≤ left - 1 := Int.mul_ediv_self_le (by omega)
    omega
  refine forR (fun i σ H' => ∃ (rest : Int) (ws : List V) (js : List Jn) (o1 o2 : Option V), σ = [some (.ref a), some (.int k), some (.int left), some (.int many), some (.int rest), some (.ref p), o1, o2] ∧ SB a H H' ∧ Src H' a ∧ H' p = some (.lst ws) ∧ Rps K H' ws (Jn.pys js) ∧ Jn.oks js ∧ js.length = i ∧ (Jn.cnts js : Int) ≤ i * ((left - 1) / many) ∧ ((i : Int) < many → many - i ≤ rest ∧ rest ≤ 64))
    ⟨k, [], [], none, none, rfl, s1.new hp, hS1.new hp, upd_same, .nil, trivial, rfl, by simp [Jn.cnts], fun _ => by omega⟩ ?_ ?_
  · rintro i σ H' hi ⟨rest, ws, js, o1, o2, rfl, g1, g2, g3, g4, g5, g6, g7, g8⟩
    have hi' : (i : Int) < many := by omega
    obtain ⟨g81, g82⟩ := g8 hi'
    have fin : ∀ (own : Int) (H3 : Hp) (v : V) (j : Jn), SB a H' H3 → Src H3 a → Ext K H' H3 → Rp K H3 v j.py → j.ok → (j.cnt : Int) ≤ (left - 1) / many → ((i : Int) + 1 < many → many - (i + 1) ≤ rest - own) → 1 ≤ own →
        H3 p = some (.lst ws) ∧ ws.length < sizeLine ∧ SB a H (upd H3 p (.lst (ws ++ [v]))) ∧ Src (upd H3 p (.lst (ws ++ [v]))) a ∧ (upd H3 p (.lst (ws ++ [v]))) p = some (.lst (ws ++ [v])) ∧ Rps K (upd H3 p (.lst (ws ++ [v]))) (ws ++ [v]) (Jn.pys (js ++ [j])) ∧ Jn.oks (js ++ [j]) ∧ (js ++ [j]).length = i + 1 ∧ (Jn.cnts (js ++ [j]) : Int) ≤ ((i + 1 : Nat) : Int) * ((left - 1) / many) ∧ (((i + 1 : Nat) : Int) < many → many - ((i + 1 : Nat) : Int) ≤ rest - own ∧ rest - own ≤ 64) := by
      intro own H3 v j s3 hS3 x23 hr3 hok hc o3 o4
      have ep := s3 _ _ nP g3
      have lw := g4.length
      rw [pys_length, g6] at lw
      refine ⟨ep, ls (by omega), (g1.trans s3).upd_new hpH, hS3.set nP, upd_same, ?_, oks_append _ _ g5 ⟨hok, trivial⟩, ?_, ?_, ?_⟩
      · rw [pys_append]
        exact ((g4.mono x23 _ _).append (.one hr3)).mono (Ext.set ep trivial) _ _
      · rw [List.length_append, g6] <;> rfl
      · rw [cnts_append]
        have e1 : Jn.cnts [j] = j.cnt := by simp [Jn.cnts]
        rw [e1]
        have e2 : ((i + 1 : Nat) : Int) * ((left - 1) / many) = (i : Int) * ((left - 1) / many) + (left - 1) / many := by
          rw [Int.natCast_add, Int.add_mul]
          simp
        omega
      · intro hlt
        have := o3 (by omega)
        omega
    walk_at "go"
    refine rd_split (fun c => ?_) (fun c => ?_)
    · walk_at "go"
      refine use_j g2 (by omega) g82 hq.1 hq.2.1 hq.2.2.1 fun H3 v j s3 hS3 hr3 hok hc => ?_
      obtain ⟨f1, f2, f3, f4, f5, f6, f7, f8, f9, f10⟩ := fin rest H3 v j s3 hS3 (g2.ext s3) hr3 hok hc (by omega) (by omega)
      walk_at "go"
      refine u_app f1 f2 ?_
      walk_at "go"
      exact ⟨_, _, _, _, _, rfl, f3, f4, f5, f6, f7, f8, f9, f10⟩
    · walk_at "go"
      refine use_take g2 (by omega) (by omega) fun H2 r s2 hS2 r0 r2 => ?_
      have ep2 := s2 _ _ nP g3
      walk_at "go"
      refine use_j hS2 (by omega) (by omega) hq.1 hq.2.1 hq.2.2.1 fun H3 v j s3 hS3 hr3 hok hc => ?_
      obtain ⟨f1, f2, f3, f4, f5, f6, f7, f8, f9, f10⟩ := fin (1 + r) H3 v j (s2.trans s3) hS3 ((g2.ext s2).trans (hS2.ext s3)) hr3 hok hc (by omega) (by omega)
      walk_at "go"
      refine u_app f1 f2 ?_
      walk_at "go"
      exact ⟨_, _, _, _, _, rfl, f3, f4, f5, f6, f7, f8, f9, f10⟩
  · rintro σ H2 ⟨rest, ws, js, o1, o2, rfl, g1, g2, g3, g4, g5, g6, g7, g8⟩
    walk_at "go"
    refine ⟨lk rfl, fun t ht => ?_⟩
    have nt : p ≠ t := ne_of_none g3 ht
    walk_at "go"
    refine u_tupL (SqL.of (show upd H2 t (.tup []) p = some (.lst ws) by rw [upd_ne nt]; exact g3)) fun t2 ht2 => ?_
    walk_at "go"
    refine ⟨lk rfl, fun t3 ht3 => ?_⟩
    have e1 : (upd (upd H2 t (.tup [])) t2 (.tup ws)) t = some (.tup []) := by rw [upd_ne (ne_of_none upd_same ht2)]; exact upd_same
    have lj : js.length ≤ 4 := by omega
    refine q _ _ (.mk (Str.ofString "cat") [] js) (((g1.new ht).new ht2).new ht3) (((g2.new ht).new ht2).new ht3) (mkJ (SqT.of e1) .nil (SqT.of upd_same) ((g4.mono (Ext.new ht) _ _).mono (Ext.new ht2) _ _) ht3) ?_ ?_
    · simp only [Jn.ok]
      exact ⟨okS_cat, by simp, (fun d hd => nomatch hd), lj, g5⟩
    · simp only [Jn.cnt]
      have e3 : ((many.toNat : Nat) : Int) = many := by omega
      rw [e3] at g7
      omega
end
end Mine

/-! ### L6 -/
set_option maxHeartbeats 1000000
namespace Mine
open PySem PySem.Spec L2
local macro_rules | `(tactic| walk_at "st") => `(tactic| first
  | ((with_reducible apply rd_var); exact rfl)
  | (with_reducible apply rd_c)
  | (with_reducible apply rd_seq)
  | (with_reducible apply rd_asg)
  | (with_reducible apply rd_gname)
  | (with_reducible apply rd_op)
  | (with_reducible apply rd_cb)
  | (with_reducible apply rd_cons)
  | (with_reducible apply rd_nil)
  | (with_reducible apply rd_if)
  | (with_reducible apply rd_test)
  | (with_reducible apply rd_bl)
  | (with_reducible apply rd_retE)
  | (with_reducible apply rd_ret)
  | (with_reducible apply rd_call)
  | (with_reducible apply rd_tup)
  | (with_reducible apply rd_lst)
  | (with_reducible apply rd_drop)
  | (with_reducible apply rd_next)
  | (with_reducible apply rd_ife)
  | (with_reducible apply rd_gsub)
  | (with_reducible apply rd_par)
  | (with_reducible apply rd_par_end)
  | (with_reducible apply rd_un)
  | (with_reducible apply rd_and)
  | (with_reducible apply rd_or)
  | (with_reducible apply rd_not)
  | (with_reducible apply rd_andV)
  | (with_reducible apply rd_orV)
  | (with_reducible apply rd_notV)
  | (with_reducible apply rd_chain)
  | (with_reducible apply rd_tB)
  | (with_reducible apply rd_brk)
  | (with_reducible apply rd_ct)
  | (with_reducible apply u_add)
  | (with_reducible apply u_sub)
  | (with_reducible apply u_lt)
  | (with_reducible apply u_le)
  | (with_reducible apply u_gt)
  | (with_reducible apply u_ge)
  | (with_reducible apply u_eqI)
  | (with_reducible apply u_eqS)
  | (with_reducible apply u_neI)
  | (with_reducible apply u_int)
  | (with_reducible apply u_intB)
  | (with_reducible apply u_max)
  | (with_reducible apply u_min)
  | (with_reducible apply u_neg)
  | ((with_reducible apply u_mod); focus first | assumption | decide | omega)
  | ((with_reducible apply u_div); focus first | decide | omega | (constructor <;> first | assumption | omega))
  | ((with_reducible apply u_mul); focus first | exact Or.inl (by omega) | exact Or.inr (by omega) | exact Or.inl (by decide) | exact Or.inr (by decide))
  | ((with_reducible apply u_ixL); (focus (first | assumption | exact SqL.of (by assumption) | exact SqL.of upd_same)); exact rfl)
  | ((with_reducible apply u_lenL); focus (first | assumption | exact SqL.of (by assumption) | exact SqL.of upd_same))
  | ((with_reducible apply u_lenT); focus (first | assumption | exact SqT.of (by assumption) | exact SqT.of upd_same))
  | ((with_reducible apply u_setL); (focus (first | assumption | exact upd_same)); exact rfl)
  | (with_reducible apply rd_chain3)
  | (with_reducible apply rd_tru)
  | (with_reducible apply rd_truB)
  | ((with_reducible apply rd_truL); focus (first | assumption | exact SqL.of (by assumption) | exact SqL.of upd_same))
  | (with_reducible apply rd_bm)
  | (with_reducible apply rd_bm0)
  | ((with_reducible apply rd_tyL); focus (first | exact SqL.of (by assumption) | exact SqL.of upd_same))
  | (with_reducible apply u_min3)
  | (with_reducible apply rd_rev)
  | (with_reducible apply rd_iList)
  | (with_reducible apply rd_iTup)
  | (with_reducible apply rd_for)
  | (with_reducible apply rd_rng1)
  | (with_reducible apply rd_rng2)
  | ((with_reducible apply rd_rng1e); (focus omega); (focus omega))
  | ((with_reducible apply rd_rng2e); (focus omega))
  | (with_reducible apply rd_gcons)
  | (with_reducible apply rd_gnil)
  | (with_reducible apply rd_retN)
  | (with_reducible apply g_eqI)
  | (with_reducible apply g_eqS)
  | (with_reducible apply g_neI)
  | (with_reducible apply g_neS)
  | (with_reducible apply g_neB)
  | (with_reducible apply rd_xf)
  | (with_reducible apply rd_raiseE)
  | (with_reducible apply rd_callS)
  | (with_reducible apply u_inD)
  | (with_reducible apply u_notInD)
  | (with_reducible apply u_inS)
  | (with_reducible apply u_notInS)
  | (with_reducible apply rd_iSeq)
  | ((with_reducible apply rd_seqL); (focus first | assumption | exact SqL.of (by assumption) | exact SqL.of upd_same))
  | ((with_reducible apply rd_seqT); (focus first | assumption | exact SqT.of (by assumption) | exact SqT.of upd_same))
  | (with_reducible apply rd_istr)
  | (with_reducible apply rd_istrE)
  | ((with_reducible apply u_isi); (focus (first | exact Or.inl rfl | exact Or.inr (Or.inl rfl) | exact Or.inr (Or.inr (Or.inl rfl)) | exact Or.inr (Or.inr (Or.inr rfl)))); (focus first | assumption | exact Rp.int _ | exact Rp.str _))
  | ((with_reducible apply rd_itL); (focus first | assumption | exact SqL.of (by assumption) | exact SqL.of upd_same))
  | ((with_reducible apply rd_itT); (focus first | assumption | exact SqT.of (by assumption) | exact SqT.of upd_same))
  | (with_reducible apply rd_lc)
  | (with_reducible apply rd_yes)
  | ((with_reducible apply u_pow); (focus (exact ⟨by decide, by decide, by decide⟩)))
  | (with_reducible apply u_mul; focus exact Or.inr cm)
  | (with_reducible apply rd_par3)
  | (with_reducible apply rd_par3_end)
  | ((with_reducible apply rd_aug); exact rfl)
  | (with_reducible apply rd_ipI)
  | (with_reducible apply iteT)
  | (with_reducible apply iteF))
local macro_rules | `(tactic| walk_at "go") => `(tactic| repeat (walk_at "st"))
local macro_rules | `(tactic| walk_at "sp") => `(tactic| (first | refine rd_split (fun c => ?_) (fun c => ?_) | refine rd_splitN (fun c => ?_) (fun c => ?_) | refine rd_splitB (fun c => ?_) (fun c => ?_)))
local macro_rules | `(tactic| walk_at "nx") => `(tactic| repeat (first | (with_reducible apply iteF) | (with_reducible apply iteT) | (with_reducible apply rd_next)))

section
variable {P : Program} {w : World} {K : PySem.W.Frag} {mg : Str → Option Value} {base : Heap}
abbrev s_law_forked : Stmt := top 41
theorem sc_law_forked : FnScope ["source", "k", "left", "kind", "first", "second", "op", "kinds", "many", "a", "n"] ["source", "k", "left", "kind"] (defScope s_law_forked) := ⟨rfl, rfl, rfl, by decide +kernel, rfl, by decide +kernel, by decide +kernel⟩
theorem step_forked {n l : Nat} (hl : 2 ≤ l) (O : OwnF K mg "_law_forked" s_law_forked) (B : Bl mg) (h_law_take : HasF P w K mg base CX0 1 "_law_take" ["source", "top"] spTake) (h_law_one : HasF P w K mg base CX0 2 "_law_one" ["source", "things"] (spOne K)) (h_law_joint : HasF P w K mg base CX0 l "_law_joint" ["source", "k", "left"] (spJ K n))
    (h_law_catted : HasF P w K mg base CX0 (l + 1) "_law_catted" ["source", "k", "left"] (spCt K (n + 1))) : HasF P w K mg base CX0 (l + 2) "_law_forked" ["source", "k", "left", "kind"] (spFk K (n + 1)) := by
  refine has0 O sc_law_forked (fun _ _ _ _ _ _ us hl => match us, hl with | [_, _, _, _], _ => rfl) (fun vs H Q E h => ?_) (fun f cdv A outer s_ H vs Q E hr h => ?_)
  · obtain ⟨a, k, left, kind, rfl, _⟩ := h
    rfl
  obtain ⟨a, k, left, kind, rfl, hS, hk1, hk2, hl1, hl2, hl3, q⟩ := h
  refine ⟨_, (pss_cons (ps_set (i := 4) sc_law_forked.nd rfl (by first | exact Or.inl rfl | exact Or.inr rfl) (pe_op (kAdd K) pe_int (pe_callH h_law_take (hr.mono (by first | decide | omega)) (by rfl) pass0 (pa_cons (pv 0) (pa_cons (pe_op subU (pv 2) pe_int) pa_nil))))) (pss_cons (ps_par3 (i := 5) (j := 6) (l := 7) (by rfl) sc_law_forked.nd rfl rfl rfl (by decide) (by decide) (by decide) rfl rfl rfl (pa_cons (pe_op subU (pe_op subU (pv 2) pe_int) (pv 4)) (pa_cons (pe_callH h_law_one (hr.mono (by first | decide | omega)) (by rfl) pass0 (pa_cons (pv 0) (pa_cons (pe_lst (pa_cons pe_str (pa_cons pe_str (pa_cons pe_str pa_nil)))) pa_nil))) (pa_cons (pe_tup (pa_cons (pv 1) (pa_cons (pv 1) pa_nil))) pa_nil))) (by rfl)) (pss_cons (ps_if (PW.pt (pw_and (pt_cmpR (kEqG K (hU hr)) (pv 1) pe_int (nomark _)) (pw_and1 (pt_cmpR (kEqG K (hU hr)) (pv 3) pe_int (nomark _))))) (pss_cons (ps_set (i := 8) sc_law_forked.nd rfl (by first | exact Or.inl rfl | exact Or.inr rfl) (pe_op (kAdd K) pe_int (pe_callH h_law_take (hr.mono (by first | decide | omega)) (by rfl) pass0 (pa_cons (pv 0) (pa_cons pe_int pa_nil))))) (pss_one (ps_par (i := 6) (j := 7) (by rfl) sc_law_forked.nd rfl rfl (by decide) rfl rfl (pa_cons pe_str (pa_cons (pe_tup (pa_cons (pv 8) (pa_cons (pv 8) pa_nil))) pa_nil)) (by rfl)))) pss_nil) (pss_cons (ps_if (pt_cmpR (kEqG K (hU hr)) (pv 3) pe_int (nomark _)) (pss_cons (ps_set (i := 9) sc_law_forked.nd rfl (by first | exact Or.inl rfl | exact Or.inr rfl) (pe_callH h_law_one (hr.mono (by first | decide | omega)) (by rfl) pass0 (pa_cons (pv 0) (pa_cons (pe_lc (own := [("n", 10)]) (g := gName 10) (tt := _) rfl sc_law_forked.nd (pi_range2 (by rfl) B.range (pa_cons pe_int (pa_cons (pe_op (kAdd K) (pv 1) pe_int) pa_nil))) (blkOk_by (own := [("n", 10)]) (N := ["source", "k", "left", "kind", "first", "second", "op", "kinds", "many", "a", "n"]) (sc := defScope s_law_forked) (by decide +kernel)) (fun _ _ _ _ _ => (pg_name (i := 10) sc_law_forked.nd rfl (by first | exact Or.inl rfl | exact Or.inr rfl))) (fun _ _ _ _ _ => (pts_one (pt_cmpR (kEqG K (hU hr)) (pe_op modU (pe_callTy intU (by rfl) B.int (by decide +kernel) (pa_cons (pv 1) pa_nil)) (pv 10)) pe_int (nomark _)))) (fun _ _ _ _ _ => (pv 10))) pa_nil)))) (pss_one (ps_par (i := 6) (j := 7) (by rfl) sc_law_forked.nd rfl rfl (by decide) rfl rfl (pa_cons pe_str (pa_cons (pe_tup (pa_cons (pv 9) (pa_cons (pe_op divU (pv 1) (pv 9)) pa_nil))) pa_nil)) (by rfl)))) pss_nil) (pss_cons (ps_if (pt_cmpR (kEqG K (hU hr)) (pv 3) pe_int (nomark _)) (pss_cons (ps_set (i := 9) sc_law_forked.nd rfl (by first | exact Or.inl rfl | exact Or.inr rfl) (pe_op (kAdd K) pe_int (pe_callH h_law_take (hr.mono (by first | decide | omega)) (by rfl) pass0 (pa_cons (pv 0) (pa_cons (pv 1) pa_nil))))) (pss_one (ps_par (i := 6) (j := 7) (by rfl) sc_law_forked.nd rfl rfl (by decide) rfl rfl (pa_cons pe_str (pa_cons (pe_tup (pa_cons (pv 9) (pa_cons (pe_op subU (pe_op (kAdd K) (pv 1) pe_int) (pv 9)) pa_nil))) pa_nil)) (by rfl)))) pss_nil) (pss_cons (ps_if (PW.pt (pw_and (pt_cmpR gtU (pv 3) pe_int (nomark _)) (pw_and1 (pt_cmpR gtU (pv 1) pe_int (nomark _))))) (pss_one (ps_ret (pe_callH h_law_catted (hr.mono (by first | decide | omega)) (by rfl) pass0 (pa_cons (pv 0) (pa_cons (pv 1) (pa_cons (pv 2) pa_nil)))))) pss_nil) (pss_one (ps_ret (pe_tup (pa_cons (pv 6) (pa_cons (pe_tup pa_nil) (pa_cons (pe_tup (pa_cons (pe_callH h_law_joint (hr.mono (by first | decide | omega)) (by rfl) pass0 (pa_cons (pv 0) (pa_cons (pe_ix (kIx K) (pv 7) pe_int (fun _ _ => rfl)) (pa_cons (pv 4) pa_nil)))) (pa_cons (pe_callH h_law_joint (hr.mono (by first | decide | omega)) (by rfl) pass0 (pa_cons (pv 0) (pa_cons (pe_ix (kIx K) (pv 7) pe_int (fun _ _ => rfl)) (pa_cons (pv 5) pa_nil)))) pa_nil))) pa_nil)))))))))))), ?_⟩
  refine st0 [some (.ref a), some (.int k), some (.int left), some (.int kind), none, none, none, none, none, none, none] rfl ?_
  walk_at "go"
  refine use_take hS (by omega) (by omega) fun H1 r1 s1 hS1 h10 h11 => ?_
  walk_at "go"
  refine ⟨lk rfl, fun p hp => ?_⟩
  walk_at "go"
  refine use_one (hS1.new hp) (SqL.of upd_same) (hS1.ne hp) (by show 0 < 3; omega) (by show 3 < 1000; omega) fun H2 v s2 hS2 hv => ?_
  obtain ⟨z, rfl, hz⟩ : ∃ z, v = .str z ∧ okS z := by
    have hv' : v = .str "add" ∨ v = .str "sub" ∨ v = .str "mul" := by simpa using hv
    rcases hv' with rfl | rfl | rfl
    · exact ⟨_, rfl, okS_of (by decide +kernel) (by decide +kernel)⟩
    · exact ⟨_, rfl, okS_of (by decide +kernel) (by decide +kernel)⟩
    · exact ⟨_, rfl, okS_of (by decide +kernel) (by decide +kernel)⟩
  walk_at "go"
  refine ⟨lk rfl, fun t ht => ?_⟩
  have sA : SB a H H2 := s1.trans ((SB.refl.new hp).trans s2)
  have hT : SqT K (upd H2 t (.tup [.int k, .int k])) t [.int k, .int k] := SqT.of upd_same
  have sB : SB a H (upd H2 t (.tup [.int k, .int k])) := sA.new ht
  have hSB := hS2.new (o := .tup [.int k, .int k]) ht
  generalize upd H2 t (.tup [.int k, .int k]) = H3 at *
  have final : ∀ (H4 : Hp) (z : Str) (t : Addr) (k1 k2 : Int) (o8 o9 o10 : Option V), SB a H H4 → Src H4 a → okS z → SqT K H4 t [.int k1, .int k2] → 1 ≤ k1 → k1 ≤ 64 → 1 ≤ k2 → k2 ≤ 64 →
      tRet (tTup (tCons (tVar 6) (tCons (tTup tNil) (tCons (tTup (tCons (tCall (spJ K n) [] E0 (tCons (tVar 0) (tCons (tOp (rIx K) (tVar 7) (tC (V.int 0))) (tCons (tVar 4) tNil)))) (tCons (tCall (spJ K n) [] E0 (tCons (tVar 0) (tCons (tOp (rIx K) (tVar 7) (tC (V.int 1))) (tCons (tVar 5) tNil)))) tNil))) tNil))))
        { nx := fun _ H' => Q .non H', rt := Q } [some (.ref a), some (.int k), some (.int left), some (.int kind), some (.int (1 + r1)), some (.int (left - 1 - (1 + r1))), some (.str z), some (.ref t), o8, o9, o10] H4 := by
    intro H4 z t k1 k2 o8 o9 o10 s4 hS4 hz hT4 a1 a2 a3 a4
    walk_at "go"
    refine ⟨lk rfl, fun q1 hq1 => ?_⟩
    have hTq : SqT K (upd H4 q1 (.tup [])) q1 [] := SqT.of upd_same
    have hTt := Ext.new (o := .tup []) hq1 _ _ hT4
    have s5 := s4.new (o := .tup []) hq1
    have hS5 := hS4.new (o := .tup []) hq1
    generalize upd H4 q1 (.tup []) = H5 at *
    walk_at "go"
    refine u_ixT hTt rfl ?_
    walk_at "go"
    refine use_j hS5 a1 a2 (by omega) (by omega) (by omega) fun H6 v1 j1 s6 hS6 hr1 hok1 hc1 => ?_
    have x6 := hS5.ext (K := K) s6
    walk_at "go"
    refine u_ixT (x6 _ _ hTt) rfl ?_
    walk_at "go"
    refine use_j hS6 a3 a4 (by omega) (by omega) (by omega) fun H7 v2 j2 s7 hS7 hr2 hok2 hc2 => ?_
    have x7 := hS6.ext (K := K) s7
    walk_at "go"
    refine ⟨lk rfl, fun q2 hq2 => ?_⟩
    walk_at "go"
    refine ⟨lk rfl, fun q3 hq3 => ?_⟩
    have x8 := Ext.new (K := K) (o := .tup [v1, v2]) hq2
    refine q _ _ (.mk z [] [j1, j2]) ((((s5.trans s6).trans s7).new hq2).new hq3) ((hS7.new hq2).new hq3) (mkJ (x8 _ _ (x7 _ _ (x6 _ _ hTq))) .nil (SqT.of upd_same) (.cons ((hr1.mono x7 _ _).mono x8 _ _) (.cons (hr2.mono x8 _ _) .nil)) hq3) ?_ ?_
    · simp only [Jn.ok, Jn.oks]
      exact ⟨hz, by simp, (fun d hd => nomatch hd), by simp, hok1, hok2, trivial⟩
    · simp only [Jn.cnt, Jn.cnts]
      omega
  have okd : okS (Str.ofString "dot") := okS_of (by decide +kernel) (by decide +kernel)
  have oko : okS (Str.ofString "outer") := okS_of (by decide +kernel) (by decide +kernel)
  have okb : okS (Str.ofString "blend") := okS_of (by decide +kernel) (by decide +kernel)
  walk_at "go"
  by_cases d8 : k = 1 ∧ kind = 8
  · obtain ⟨rfl, rfl⟩ := d8
    refine rd_split (fun _ => ?_) (fun c => absurd rfl c)
    walk_at "go"
    refine rd_split (fun _ => ?_) (fun c => absurd rfl c)
    walk_at "go"
    refine use_take hSB (by omega) (by omega) fun H4 r s4 hS4 r0 r2 => ?_
    walk_at "go"
    refine ⟨lk rfl, fun t2 ht2 => ?_⟩
    walk_at "go"
    refine rd_split (fun c => absurd c (by omega)) (fun _ => ?_)
    walk_at "go"
    refine rd_split (fun c => absurd c (by omega)) (fun _ => ?_)
    walk_at "go"
    refine rd_split (fun c => absurd c (by omega)) (fun _ => ?_)
    walk_at "nx"
    exact final _ _ _ _ _ _ _ _ ((sB.trans s4).new ht2) (hS4.new ht2) okd (SqT.of upd_same) (by omega) (by omega) (by omega) (by omega)
  · refine rd_split (fun c1 => ?_) (fun c1 => ?_)
    · walk_at "go"
      refine rd_split (fun c => absurd ⟨c1, c⟩ d8) (fun _ => ?_)
      walk_at "go"
      refine rd_split (fun c9 => ?_) (fun c9 => ?_)
      walk_at "go"
      intro D hD
      refine lc_range (lo := 1) (fun i H' => ∃ ns : List Int, H' D = some (.lst (ns.map V.int)) ∧ (∀ n ∈ ns, 1 ≤ n ∧ k % n = 0) ∧ (1 ≤ i → ns ≠ []) ∧ ns.length ≤ i ∧ Same H3 H') ⟨[], upd_same, (fun _ h => nomatch h), (fun h => absurd h (by omega)), Nat.le_refl _, Same.upd_new (Same.refl H3) hD⟩ ?_ ?_
      rintro i H' hi ⟨ns, g1, g2, g3, g4, g5⟩
      walk_at "go"
      refine ⟨rfl, ?_⟩
      walk_at "go"
      refine rd_split (fun c0 => ?_) (fun c0 => ?_)
      walk_at "go"
      refine ⟨_, g1, by rw [List.length_map]; exact ls (by omega), ns ++ [1 + (i : Int)], by rw [upd_same, List.map_append] <;> rfl, fun n hn => ?_, fun _ h => by simp at h, by rw [List.length_append]; exact Nat.succ_le_succ g4, Same.upd_new g5 hD⟩
      rcases List.mem_append.mp hn with h | h
      exact g2 n h
      rw [show n = 1 + (i : Int) by simpa using h]
      exact ⟨by omega, c0⟩
      refine ⟨ns, g1, g2, fun _ => ?_, by omega, g5⟩
      by_cases i0 : i = 0
      subst i0
      exact absurd (by simp) c0
      exact g3 (by omega)
      rintro H4 ⟨ns, g1, g2, g3, g4, g5⟩
      have sC : SB a H H4 := sB.trans (SB.of_same g5)
      have hS4 : Src H4 a := hSB.same g5
      walk_at "go"
      have ln : 0 < ns.length := List.length_pos_iff.mpr (g3 (by omega))
      refine use_one hS4 (SqL.of g1) (hSB.ne hD) (by rw [List.length_map]; exact ln) (by rw [List.length_map]; omega) fun H5 v s5 hS5 hv => ?_
      obtain ⟨n, hn, rfl⟩ := List.mem_map.mp hv
      obtain ⟨n1, n2⟩ := g2 n hn
      obtain ⟨n3, n4, n5⟩ := mod_le hk1 n1 n2
      walk_at "go"
      refine ⟨lk rfl, fun t2 ht2 => ?_⟩
      walk_at "go"
      refine rd_split (fun c => absurd c (by omega)) (fun _ => ?_)
      walk_at "go"
      refine rd_split (fun c => absurd c (by omega)) (fun _ => ?_)
      walk_at "nx"
      exact final _ _ _ _ _ _ _ _ ((sC.trans s5).new ht2) (hS5.new ht2) oko (SqT.of upd_same) (by omega) (by omega) (by omega) (by omega)
      walk_at "go"
      refine rd_split (fun c10 => ?_) (fun c10 => ?_)
      walk_at "go"
      refine use_take hSB (by omega) (by omega) fun H4 r s4 hS4 r0 r2 => ?_
      walk_at "go"
      refine ⟨lk rfl, fun t2 ht2 => ?_⟩
      walk_at "go"
      refine rd_split (fun c => absurd c (by omega)) (fun _ => ?_)
      walk_at "nx"
      exact final _ _ _ _ _ _ _ _ ((sB.trans s4).new ht2) (hS4.new ht2) okb (SqT.of upd_same) (by omega) (by omega) (by omega) (by omega)
      walk_at "go"
      refine rd_split (fun c => ?_) (fun c => ?_)
      walk_at "go"
      refine rd_split (fun c2 => ?_) (fun c2 => ?_)
      walk_at "go"
      exact ⟨a, k, left, rfl, hSB, by omega, hk2, hl1, by omega, hl3, fun H' v j s hS' hr' hok hc => q H' v j (sB.trans s) hS' hr' hok hc⟩
      walk_at "nx"
      exact final _ _ _ _ _ _ _ _ sB hSB hz hT hk1 hk2 hk1 hk2
      walk_at "nx"
      exact final _ _ _ _ _ _ _ _ sB hSB hz hT hk1 hk2 hk1 hk2
    · walk_at "go"
      refine rd_split (fun c9 => ?_) (fun c9 => ?_)
      walk_at "go"
      intro D hD
      refine lc_range (lo := 1) (fun i H' => ∃ ns : List Int, H' D = some (.lst (ns.map V.int)) ∧ (∀ n ∈ ns, 1 ≤ n ∧ k % n = 0) ∧ (1 ≤ i → ns ≠ []) ∧ ns.length ≤ i ∧ Same H3 H') ⟨[], upd_same, (fun _ h => nomatch h), (fun h => absurd h (by omega)), Nat.le_refl _, Same.upd_new (Same.refl H3) hD⟩ ?_ ?_
      rintro i H' hi ⟨ns, g1, g2, g3, g4, g5⟩
      walk_at "go"
      refine ⟨rfl, ?_⟩
      walk_at "go"
      refine rd_split (fun c0 => ?_) (fun c0 => ?_)
      walk_at "go"
      refine ⟨_, g1, by rw [List.length_map]; exact ls (by omega), ns ++ [1 + (i : Int)], by rw [upd_same, List.map_append] <;> rfl, fun n hn => ?_, fun _ h => by simp at h, by rw [List.length_append]; exact Nat.succ_le_succ g4, Same.upd_new g5 hD⟩
      rcases List.mem_append.mp hn with h | h
      exact g2 n h
      rw [show n = 1 + (i : Int) by simpa using h]
      exact ⟨by omega, c0⟩
      refine ⟨ns, g1, g2, fun _ => ?_, by omega, g5⟩
      by_cases i0 : i = 0
      subst i0
      exact absurd (by simp) c0
      exact g3 (by omega)
      rintro H4 ⟨ns, g1, g2, g3, g4, g5⟩
      have sC : SB a H H4 := sB.trans (SB.of_same g5)
      have hS4 : Src H4 a := hSB.same g5
      walk_at "go"
      have ln : 0 < ns.length := List.length_pos_iff.mpr (g3 (by omega))
      refine use_one hS4 (SqL.of g1) (hSB.ne hD) (by rw [List.length_map]; exact ln) (by rw [List.length_map]; omega) fun H5 v s5 hS5 hv => ?_
      obtain ⟨n, hn, rfl⟩ := List.mem_map.mp hv
      obtain ⟨n1, n2⟩ := g2 n hn
      obtain ⟨n3, n4, n5⟩ := mod_le hk1 n1 n2
      walk_at "go"
      refine ⟨lk rfl, fun t2 ht2 => ?_⟩
      walk_at "go"
      refine rd_split (fun c => absurd c (by omega)) (fun _ => ?_)
      walk_at "go"
      refine rd_split (fun c => absurd c (by omega)) (fun _ => ?_)
      walk_at "nx"
      exact final _ _ _ _ _ _ _ _ ((sC.trans s5).new ht2) (hS5.new ht2) oko (SqT.of upd_same) (by omega) (by omega) (by omega) (by omega)
      walk_at "go"
      refine rd_split (fun c10 => ?_) (fun c10 => ?_)
      walk_at "go"
      refine use_take hSB (by omega) (by omega) fun H4 r s4 hS4 r0 r2 => ?_
      walk_at "go"
      refine ⟨lk rfl, fun t2 ht2 => ?_⟩
      walk_at "go"
      refine rd_split (fun c => absurd c (by omega)) (fun _ => ?_)
      walk_at "nx"
      exact final _ _ _ _ _ _ _ _ ((sB.trans s4).new ht2) (hS4.new ht2) okb (SqT.of upd_same) (by omega) (by omega) (by omega) (by omega)
      walk_at "go"
      refine rd_split (fun c => ?_) (fun c => ?_)
      walk_at "go"
      refine rd_split (fun c2 => ?_) (fun c2 => ?_)
      walk_at "go"
      exact ⟨a, k, left, rfl, hSB, by omega, hk2, hl1, by omega, hl3, fun H' v j s hS' hr' hok hc => q H' v j (sB.trans s) hS' hr' hok hc⟩
      walk_at "nx"
      exact final _ _ _ _ _ _ _ _ sB hSB hz hT hk1 hk2 hk1 hk2
      walk_at "nx"
      exact final _ _ _ _ _ _ _ _ sB hSB hz hT hk1 hk2 hk1 hk2
end
end Mine

/-! ### L7 -/
set_option maxHeartbeats 1000000
namespace Mine
open PySem PySem.Spec L2
local macro_rules | `(tactic| walk_at "st") => `(tactic| first
  | ((with_reducible apply rd_var); exact rfl)
  | (with_reducible apply rd_c)
  | (with_reducible apply rd_seq)
  | (with_reducible apply rd_asg)
  | (with_reducible apply rd_gname)
  | (with_reducible apply rd_op)
  | (with_reducible apply rd_cb)
  | (with_reducible apply rd_cons)
  | (with_reducible apply rd_nil)
  | (with_reducible apply rd_if)
  | (with_reducible apply rd_test)
  | (with_reducible apply rd_bl)
  | (with_reducible apply rd_retE)
  | (with_reducible apply rd_ret)
  | (with_reducible apply rd_call)
  | (with_reducible apply rd_tup)
  | (with_reducible apply rd_lst)
  | (with_reducible apply rd_drop)
  | (with_reducible apply rd_next)
  | (with_reducible apply rd_ife)
  | (with_reducible apply rd_gsub)
  | (with_reducible apply rd_par)
  | (with_reducible apply rd_par_end)
  | (with_reducible apply rd_un)
  | (with_reducible apply rd_and)
  | (with_reducible apply rd_or)
  | (with_reducible apply rd_not)
  | (with_reducible apply rd_andV)
  | (with_reducible apply rd_orV)
  | (with_reducible apply rd_notV)
  | (with_reducible apply rd_chain)
  | (with_reducible apply rd_tB)
  | (with_reducible apply rd_brk)
  | (with_reducible apply rd_ct)
  | (with_reducible apply u_add)
  | (with_reducible apply u_sub)
  | (with_reducible apply u_lt)
  | (with_reducible apply u_le)
  | (with_reducible apply u_gt)
  | (with_reducible apply u_ge)
  | (with_reducible apply u_eqI)
  | (with_reducible apply u_eqS)
  | (with_reducible apply u_neI)
  | (with_reducible apply u_int)
  | (with_reducible apply u_intB)
  | (with_reducible apply u_max)
  | (with_reducible apply u_min)
  | (with_reducible apply u_neg)
  | ((with_reducible apply u_mod); focus first | assumption | decide | omega)
  | ((with_reducible apply u_div); focus first | decide | omega | (constructor <;> first | assumption | omega))
  | ((with_reducible apply u_mul); focus first | exact Or.inl (by omega) | exact Or.inr (by omega) | exact Or.inl (by decide) | exact Or.inr (by decide))
  | ((with_reducible apply u_ixL); (focus (first | assumption | exact SqL.of (by assumption) | exact SqL.of upd_same)); exact rfl)
  | ((with_reducible apply u_lenL); focus (first | assumption | exact SqL.of (by assumption) | exact SqL.of upd_same))
  | ((with_reducible apply u_lenT); focus (first | assumption | exact SqT.of (by assumption) | exact SqT.of upd_same))
  | ((with_reducible apply u_setL); (focus (first | assumption | exact upd_same)); exact rfl)
  | (with_reducible apply rd_chain3)
  | (with_reducible apply rd_tru)
  | (with_reducible apply rd_truB)
  | ((with_reducible apply rd_truL); focus (first | assumption | exact SqL.of (by assumption) | exact SqL.of upd_same))
  | (with_reducible apply rd_bm)
  | (with_reducible apply rd_bm0)
  | ((with_reducible apply rd_tyL); focus (first | exact SqL.of (by assumption) | exact SqL.of upd_same))
  | (with_reducible apply u_min3)
  | (with_reducible apply rd_rev)
  | (with_reducible apply rd_iList)
  | (with_reducible apply rd_iTup)
  | (with_reducible apply rd_for)
  | (with_reducible apply rd_rng1)
  | (with_reducible apply rd_rng2)
  | ((with_reducible apply rd_rng1e); (focus omega); (focus omega))
  | ((with_reducible apply rd_rng2e); (focus omega))
  | (with_reducible apply rd_gcons)
  | (with_reducible apply rd_gnil)
  | (with_reducible apply rd_retN)
  | (with_reducible apply g_eqI)
  | (with_reducible apply g_eqS)
  | (with_reducible apply g_neI)
  | (with_reducible apply g_neS)
  | (with_reducible apply g_neB)
  | (with_reducible apply rd_xf)
  | (with_reducible apply rd_raiseE)
  | (with_reducible apply rd_callS)
  | (with_reducible apply u_inD)
  | (with_reducible apply u_notInD)
  | (with_reducible apply u_inS)
  | (with_reducible apply u_notInS)
  | (with_reducible apply rd_iSeq)
  | ((with_reducible apply rd_seqL); (focus first | assumption | exact SqL.of (by assumption) | exact SqL.of upd_same))
  | ((with_reducible apply rd_seqT); (focus first | assumption | exact SqT.of (by assumption) | exact SqT.of upd_same))
  | (with_reducible apply rd_istr)
  | (with_reducible apply rd_istrE)
  | ((with_reducible apply u_isi); (focus (first | exact Or.inl rfl | exact Or.inr (Or.inl rfl) | exact Or.inr (Or.inr (Or.inl rfl)) | exact Or.inr (Or.inr (Or.inr rfl)))); (focus first | assumption | exact Rp.int _ | exact Rp.str _))
  | ((with_reducible apply rd_itL); (focus first | assumption | exact SqL.of (by assumption) | exact SqL.of upd_same))
  | ((with_reducible apply rd_itT); (focus first | assumption | exact SqT.of (by assumption) | exact SqT.of upd_same))
  | (with_reducible apply rd_lc)
  | (with_reducible apply rd_yes)
  | ((with_reducible apply u_pow); (focus (exact ⟨by decide, by decide, by decide⟩)))
  | (with_reducible apply u_mul; focus exact Or.inr cm)
  | (with_reducible apply rd_par3)
  | (with_reducible apply rd_par3_end)
  | ((with_reducible apply rd_aug); exact rfl)
  | (with_reducible apply rd_ipI)
  | (with_reducible apply iteT)
  | (with_reducible apply iteF))
local macro_rules | `(tactic| walk_at "go") => `(tactic| repeat (walk_at "st"))
local macro_rules | `(tactic| walk_at "sp") => `(tactic| (first | refine rd_split (fun c => ?_) (fun c => ?_) | refine rd_splitN (fun c => ?_) (fun c => ?_) | refine rd_splitB (fun c => ?_) (fun c => ?_)))
local macro_rules | `(tactic| walk_at "nx") => `(tactic| repeat (first | (with_reducible apply iteF) | (with_reducible apply iteT) | (with_reducible apply rd_next)))

section
variable {P : Program} {w : World} {K : PySem.W.Frag} {mg : Str → Option Value} {base : Heap}
abbrev s_law_joint : Stmt := top 40
theorem sc_law_joint : FnScope ["source", "k", "left", "kind", "i", "more", "n"] ["source", "k", "left"] (defScope s_law_joint) := ⟨rfl, rfl, rfl, by decide +kernel, rfl, by decide +kernel, by decide +kernel⟩
theorem step_joint {n l : Nat} (hl : 4 ≤ l) (O : OwnF K mg "_law_joint" s_law_joint) (B : Bl mg) (h_law_take : HasF P w K mg base CX0 1 "_law_take" ["source", "top"] spTake) (h_law_one : HasF P w K mg base CX0 2 "_law_one" ["source", "things"] (spOne K)) (h_law_leaf : HasF P w K mg base CX0 4 "_law_leaf" ["source", "k"] (spLeaf K))
    (h_law_joint : HasF P w K mg base CX0 l "_law_joint" ["source", "k", "left"] (spJ K n)) (h_law_forked : HasF P w K mg base CX0 (l + 2) "_law_forked" ["source", "k", "left", "kind"] (spFk K (n + 1))) : HasF P w K mg base CX0 (l + 3) "_law_joint" ["source", "k", "left"] (spJ K (n + 1)) := by
  refine has0 O sc_law_joint (fun _ _ _ _ _ _ us hl => match us, hl with | [_, _, _], _ => rfl) (fun vs H Q E h => ?_) (fun f cdv A outer s_ H vs Q E hr h => ?_)
  · obtain ⟨a, k, left, rfl, _⟩ := h
    rfl
  obtain ⟨a, k, left, rfl, hS, hk1, hk2, hl1, hl2, hl3, q⟩ := h
  have fin : ∀ (H6 : Hp) (z : Str) (t q2 q3 : Addr) (tv : List V) (td : List PyData) (v1 : V) (j1 : Jn), SB a H H6 → Src H6 a → okS z → SqT K H6 t tv → Rps K H6 tv td → td.length ≤ 64 → (∀ d ∈ td, flatD d) → Rp K H6 v1 j1.py → j1.ok → (j1.cnt : Int) ≤ left - 1 → H6 q2 = none →
      upd H6 q2 (.tup [v1]) q3 = none → Q (.ref q3) (upd (upd H6 q2 (.tup [v1])) q3 (.tup [.str z, .ref t, .ref q2])) := by
    intro H6 z t q2 q3 tv td v1 j1 s6 hS6 hz hT hTr htl htf hr1 hok hc hq2 hq3
    have x8 := Ext.new (K := K) (o := .tup [v1]) hq2
    refine q _ _ (.mk z td [j1]) ((s6.new hq2).new hq3) ((hS6.new hq2).new hq3) (mkJ (x8 _ _ hT) (hTr.mono x8 _ _) (SqT.of upd_same) (.cons (hr1.mono x8 _ _) .nil) hq3) ?_ ?_
    · simp only [Jn.ok, Jn.oks]
      exact ⟨hz, htl, htf, by simp, hok, trivial⟩
    · simp only [Jn.cnt, Jn.cnts]
      omega
  have ok1 : okS (Str.ofString "rev") := okS_of (by decide +kernel) (by decide +kernel)
  have ok2 : okS (Str.ofString "sort") := okS_of (by decide +kernel) (by decide +kernel)
  have ok3 : okS (Str.ofString "hold") := okS_of (by decide +kernel) (by decide +kernel)
  have ok4 : okS (Str.ofString "part") := okS_of (by decide +kernel) (by decide +kernel)
  have ok5 : okS (Str.ofString "rep") := okS_of (by decide +kernel) (by decide +kernel)
  have ok6 : okS (Str.ofString "sum") := okS_of (by decide +kernel) (by decide +kernel)
  have ok7 : okS (Str.ofString "top") := okS_of (by decide +kernel) (by decide +kernel)
  have ok8 : okS (Str.ofString "cat") := okS_of (by decide +kernel) (by decide +kernel)
  have fl1 : ∀ i : Int, ∀ d ∈ [PyData.int i], flatD d := fun i d hd => by
    rw [show d = .int i by simpa using hd]
    exact trivial
  refine ⟨_, (pss_cons (ps_set (i := 3) sc_law_joint.nd rfl (by first | exact Or.inl rfl | exact Or.inr rfl) (pe_callH h_law_take (hr.mono (by first | decide | omega)) (by rfl) pass0 (pa_cons (pv 0) (pa_cons pe_int pa_nil)))) (pss_cons (ps_if (PW.pt (pw_or (pt_cmpR ltU (pv 2) pe_int (nomark _)) (pw_or1 (pt_cmpR (kEqG K (hU hr)) (pv 3) pe_int (nomark _))))) (pss_one (ps_ret (pe_callH h_law_leaf (hr.mono (by first | decide | omega)) (by rfl) pass0 (pa_cons (pv 0) (pa_cons (pv 1) pa_nil))))) pss_nil) (pss_cons (ps_if (pt_cmpR ltU (pv 3) pe_int (nomark _)) (pss_one (ps_ret (pe_tup (pa_cons (pe_callH h_law_one (hr.mono (by first | decide | omega)) (by rfl) pass0 (pa_cons (pv 0) (pa_cons (pe_lst (pa_cons pe_str (pa_cons pe_str pa_nil))) pa_nil))) (pa_cons (pe_tup pa_nil) (pa_cons (pe_tup (pa_cons (pe_callH h_law_joint (hr.mono (by first | decide | omega)) (by rfl) pass0 (pa_cons (pv 0) (pa_cons (pv 1) (pa_cons (pe_op subU (pv 2) pe_int) pa_nil)))) pa_nil)) pa_nil)))))) pss_nil) (pss_cons (ps_if (pt_cmpR (kEqG K (hU hr)) (pv 3) pe_int (nomark _)) (pss_one (ps_ret (pe_tup (pa_cons pe_str (pa_cons (pe_tup (pa_cons (pe_callH h_law_take (hr.mono (by first | decide | omega)) (by rfl) pass0 (pa_cons (pv 0) (pa_cons (pe_callH h_law_one (hr.mono (by first | decide | omega)) (by rfl) pass0 (pa_cons (pv 0) (pa_cons (pe_lst (pa_cons pe_int (pa_cons pe_int (pa_cons pe_int pa_nil)))) pa_nil))) pa_nil))) pa_nil)) (pa_cons (pe_tup (pa_cons (pe_callH h_law_joint (hr.mono (by first | decide | omega)) (by rfl) pass0 (pa_cons (pv 0) (pa_cons (pv 1) (pa_cons (pe_op subU (pv 2) pe_int) pa_nil)))) pa_nil)) pa_nil)))))) pss_nil) (pss_cons (ps_if (PW.pt (pw_and (pt_cmpR (kEqG K (hU hr)) (pv 3) pe_int (nomark _)) (pw_and1 (pt_cmpR ltU (pv 1) pe_int (nomark _))))) (pss_cons (ps_par (i := 4) (j := 5) (by rfl) sc_law_joint.nd rfl rfl (by decide) rfl rfl (pa_cons (pe_callH h_law_take (hr.mono (by first | decide | omega)) (by rfl) pass0 (pa_cons (pv 0) (pa_cons pe_int pa_nil))) (pa_cons (pe_callH h_law_take (hr.mono (by first | decide | omega)) (by rfl) pass0 (pa_cons (pv 0) (pa_cons pe_int pa_nil))) pa_nil)) (by rfl)) (pss_one (ps_ret (pe_tup (pa_cons pe_str (pa_cons (pe_tup (pa_cons (pv 4) (pa_cons (pe_op (kAdd K) (pv 4) (pv 1)) pa_nil))) (pa_cons (pe_tup (pa_cons (pe_callH h_law_joint (hr.mono (by first | decide | omega)) (by rfl) pass0 (pa_cons (pv 0) (pa_cons (pe_op (kAdd K) (pe_op (kAdd K) (pv 4) (pv 1)) (pv 5)) (pa_cons (pe_op subU (pv 2) pe_int) pa_nil)))) pa_nil)) pa_nil))))))) pss_nil) (pss_cons (ps_if (pt_cmpR (kEqG K (hU hr)) (pv 3) pe_int (nomark _)) (pss_cons (ps_set (i := 6) sc_law_joint.nd rfl (by first | exact Or.inl rfl | exact Or.inr rfl) (pe_callH h_law_one (hr.mono (by first | decide | omega)) (by rfl) pass0 (pa_cons (pv 0) (pa_cons (pe_lc (own := [("n", 6)]) (g := gName 6) (tt := _) rfl sc_law_joint.nd (pi_range2 (by rfl) B.range (pa_cons pe_int (pa_cons pe_int pa_nil))) (blkOk_by (own := [("n", 6)]) (N := ["source", "k", "left", "kind", "i", "more", "n"]) (sc := defScope s_law_joint) (by decide +kernel)) (fun _ _ _ _ _ => (pg_name (i := 6) sc_law_joint.nd rfl (by first | exact Or.inl rfl | exact Or.inr rfl))) (fun _ _ _ _ _ => (pts_one (pt_cmpR (kEqG K (hU hr)) (pe_op modU (pe_callTy intU (by rfl) B.int (by decide +kernel) (pa_cons (pv 1) pa_nil)) (pv 6)) pe_int (nomark _)))) (fun _ _ _ _ _ => (pv 6))) pa_nil)))) (pss_one (ps_ret (pe_tup (pa_cons pe_str (pa_cons (pe_tup (pa_cons (pv 6) pa_nil)) (pa_cons (pe_tup (pa_cons (pe_callH h_law_joint (hr.mono (by first | decide | omega)) (by rfl) pass0 (pa_cons (pv 0) (pa_cons (pe_op divU (pv 1) (pv 6)) (pa_cons (pe_op subU (pv 2) pe_int) pa_nil)))) pa_nil)) pa_nil))))))) pss_nil) (pss_cons (ps_if (PW.pt (pw_and (pt_cmpR (kEqG K (hU hr)) (pv 1) pe_int (nomark _)) (pw_and1 (pt_cmpR ltU (pv 3) pe_int (nomark _))))) (pss_one (ps_ret (pe_tup (pa_cons (pe_callH h_law_one (hr.mono (by first | decide | omega)) (by rfl) pass0 (pa_cons (pv 0) (pa_cons (pe_lst (pa_cons pe_str (pa_cons pe_str pa_nil))) pa_nil))) (pa_cons (pe_tup pa_nil) (pa_cons (pe_tup (pa_cons (pe_callH h_law_joint (hr.mono (by first | decide | omega)) (by rfl) pass0 (pa_cons (pv 0) (pa_cons (pe_op (kAdd K) pe_int (pe_callH h_law_take (hr.mono (by first | decide | omega)) (by rfl) pass0 (pa_cons (pv 0) (pa_cons pe_int pa_nil)))) (pa_cons (pe_op subU (pv 2) pe_int) pa_nil)))) pa_nil)) pa_nil)))))) pss_nil) (pss_cons (ps_if (pt_cmpR ltU (pv 2) pe_int (nomark _)) (pss_one (ps_ret (pe_tup (pa_cons pe_str (pa_cons (pe_tup pa_nil) (pa_cons (pe_tup (pa_cons (pe_callH h_law_joint (hr.mono (by first | decide | omega)) (by rfl) pass0 (pa_cons (pv 0) (pa_cons (pv 1) (pa_cons (pe_op subU (pv 2) pe_int) pa_nil)))) pa_nil)) pa_nil)))))) pss_nil) (pss_one (ps_ret (pe_callH h_law_forked (hr.mono (by first | decide | omega)) (by rfl) pass0 (pa_cons (pv 0) (pa_cons (pv 1) (pa_cons (pv 2) (pa_cons (pv 3) pa_nil))))))))))))))), ?_⟩
  refine st0 [some (.ref a), some (.int k), some (.int left), none, none, none, none] rfl ?_
  walk_at "go"
  refine use_take hS (by omega) (by omega) fun H1 kind s1 hS1 h10 h11 => ?_
  walk_at "go"
  refine rd_split (fun c => ?_) (fun c => ?_)
  · walk_at "go"
    exact use_leaf hS1 hk1 hk2 fun H' v j s hS' hr' hok hc => q H' v j (s1.trans s) hS' hr' hok (by omega)
  walk_at "go"
  refine rd_split (fun c0 => ?_) (fun c0 => ?_)
  · walk_at "go"
    exact use_leaf hS1 hk1 hk2 fun H' v j s hS' hr' hok hc => q H' v j (s1.trans s) hS' hr' hok (by omega)
  walk_at "go"
  refine rd_split (fun c3 => ?_) (fun c3 => ?_)
  · walk_at "go"
    refine ⟨lk rfl, fun p hp => ?_⟩
    walk_at "go"
    refine use_one (hS1.new hp) (SqL.of upd_same) (hS1.ne hp) (by show 0 < 2; omega) (by show 2 < 1000; omega) fun H2 v s2 hS2 hv => ?_
    obtain ⟨z, rfl, hz⟩ : ∃ z, v = .str z ∧ okS z := by
      have hv' : v = .str "rev" ∨ v = .str "sort" := by simpa using hv
      rcases hv' with rfl | rfl
      · exact ⟨_, rfl, ok1⟩
      · exact ⟨_, rfl, ok2⟩
    have sA : SB a H H2 := s1.trans ((SB.refl.new hp).trans s2)
    walk_at "go"
    refine ⟨lk rfl, fun t ht => ?_⟩
    walk_at "go"
    refine use_j (hS2.new ht) hk1 hk2 (by omega) (by omega) (by omega) fun H6 v1 j1 s6 hS6 hr1 hok1 hc1 => ?_
    walk_at "go"
    refine ⟨lk rfl, fun q2 hq2 => ?_⟩
    walk_at "go"
    refine ⟨lk rfl, fun q3 hq3 => ?_⟩
    exact fin _ _ _ _ _ _ _ _ _ ((sA.new ht).trans s6) hS6 hz ((hS2.new ht).ext s6 _ _ (SqT.of upd_same)) .nil (by simp) (fun d hd => nomatch hd) hr1 hok1 hc1 hq2 hq3
  walk_at "go"
  refine rd_split (fun c4 => ?_) (fun c4 => ?_)
  · walk_at "go"
    refine ⟨lk rfl, fun p hp => ?_⟩
    walk_at "go"
    refine use_one (hS1.new hp) (SqL.of upd_same) (hS1.ne hp) (by show 0 < 3; omega) (by show 3 < 1000; omega) fun H2 v s2 hS2 hv => ?_
    obtain ⟨z, rfl, hz1, hz2⟩ : ∃ z, v = .int z ∧ 0 < z ∧ z < 100 := by
      have hv' : v = .int 2 ∨ v = .int 9 ∨ v = .int 65 := by simpa using hv
      rcases hv' with rfl | rfl | rfl
      · exact ⟨_, rfl, by omega, by omega⟩
      · exact ⟨_, rfl, by omega, by omega⟩
      · exact ⟨_, rfl, by omega, by omega⟩
    have sA : SB a H H2 := s1.trans ((SB.refl.new hp).trans s2)
    walk_at "go"
    refine use_take hS2 (by omega) (by omega) fun H3 r s3 hS3 r0 r1 => ?_
    walk_at "go"
    refine ⟨lk rfl, fun t ht => ?_⟩
    walk_at "go"
    refine use_j (hS3.new ht) hk1 hk2 (by omega) (by omega) (by omega) fun H6 v1 j1 s6 hS6 hr1 hok1 hc1 => ?_
    walk_at "go"
    refine ⟨lk rfl, fun q2 hq2 => ?_⟩
    walk_at "go"
    refine ⟨lk rfl, fun q3 hq3 => ?_⟩
    exact fin _ _ _ _ _ _ _ _ _ (((sA.trans s3).new ht).trans s6) hS6 ok3 ((hS3.new ht).ext s6 _ _ (SqT.of upd_same)) (.one (.int r)) (by simp) (fl1 r) hr1 hok1 hc1 hq2 hq3
  walk_at "go"
  refine rd_split (fun k4 => ?_) (fun k4 => ?_)
  walk_at "go"
  refine rd_split (fun k60 => ?_) (fun k60 => ?_)
  walk_at "go"
  refine use_take hS1 (by omega) (by omega) fun H2 i s2 hS2 i0 i1 => ?_
  walk_at "go"
  refine use_take hS2 (by omega) (by omega) fun H3 m s3 hS3 m0 m1 => ?_
  walk_at "go"
  refine ⟨lk rfl, fun t ht => ?_⟩
  walk_at "go"
  refine use_j (hS3.new ht) (by omega) (by omega) (by omega) (by omega) (by omega) fun H6 v1 j1 s6 hS6 hr1 hok1 hc1 => ?_
  walk_at "go"
  refine ⟨lk rfl, fun q2 hq2 => ?_⟩
  walk_at "go"
  refine ⟨lk rfl, fun q3 hq3 => ?_⟩
  exact fin _ _ _ _ _ _ _ _ _ ((((s1.trans s2).trans s3).new ht).trans s6) hS6 ok4 ((hS3.new ht).ext s6 _ _ (SqT.of upd_same)) (.cons (.int i) (.one (.int (i + k)))) (by simp) (fun d hd => by rcases (show d = .int i ∨ d = .int (i + k) by simpa using hd) with rfl | rfl <;> exact trivial) hr1 hok1 hc1 hq2 hq3
  walk_at "go"
  refine rd_split (fun c5 => ?_) (fun c5 => ?_)
  walk_at "go"
  intro D hD
  refine lc_range (lo := 1) (fun i H' => ∃ ns : List Int, H' D = some (.lst (ns.map V.int)) ∧ (∀ n ∈ ns, 1 ≤ n ∧ k % n = 0) ∧ (1 ≤ i → ns ≠ []) ∧ ns.length ≤ i ∧ Same H1 H') ⟨[], upd_same, (fun _ h => nomatch h), (fun h => absurd h (by omega)), Nat.le_refl _, Same.upd_new (Same.refl H1) hD⟩ ?_ ?_
  rintro i H' hi ⟨ns, g1, g2, g3, g4, g5⟩
  have hi2 : i < 16 := hi
  walk_at "go"
  refine ⟨rfl, ?_⟩
  walk_at "go"
  refine rd_split (fun c0 => ?_) (fun c0 => ?_)
  walk_at "go"
  refine ⟨_, g1, by rw [List.length_map]; exact ls (by omega), ns ++ [1 + (i : Int)], by rw [upd_same, List.map_append] <;> rfl, fun n hn => ?_, fun _ h => by simp at h, by rw [List.length_append]; exact Nat.succ_le_succ g4, Same.upd_new g5 hD⟩
  rcases List.mem_append.mp hn with h | h
  exact g2 n h
  rw [show n = 1 + (i : Int) by simpa using h]
  exact ⟨by omega, c0⟩
  refine ⟨ns, g1, g2, fun _ => ?_, by omega, g5⟩
  by_cases i0 : i = 0
  subst i0
  exact absurd (by simp) c0
  exact g3 (by omega)
  rintro H4 ⟨ns, g1, g2, g3, g4, g5⟩
  have g4' : ns.length ≤ 16 := g4
  have sC : SB a H H4 := s1.trans (SB.of_same g5)
  have hS4 : Src H4 a := hS1.same g5
  walk_at "go"
  have ln : 0 < ns.length := List.length_pos_iff.mpr (g3 (by decide))
  refine use_one hS4 (SqL.of g1) (hS1.ne hD) (by rw [List.length_map]; exact ln) (by rw [List.length_map]; omega) fun H5 v s5 hS5 hv => ?_
  obtain ⟨n, hn, rfl⟩ := List.mem_map.mp hv
  obtain ⟨n1, n2⟩ := g2 n hn
  obtain ⟨n3, n4, n5⟩ := mod_le hk1 n1 n2
  walk_at "go"
  refine ⟨lk rfl, fun t ht => ?_⟩
  walk_at "go"
  refine use_j (hS5.new ht) n4 (by omega) (by omega) (by omega) (by omega) fun H6 v1 j1 s6 hS6 hr1 hok1 hc1 => ?_
  walk_at "go"
  refine ⟨lk rfl, fun q2 hq2 => ?_⟩
  walk_at "go"
  refine ⟨lk rfl, fun q3 hq3 => ?_⟩
  exact fin _ _ _ _ _ _ _ _ _ (((sC.trans s5).new ht).trans s6) hS6 ok5 ((hS5.new ht).ext s6 _ _ (SqT.of upd_same)) (.one (.int n)) (by simp) (fl1 n) hr1 hok1 hc1 hq2 hq3
  walk_at "go"
  refine rd_split (fun ck => ?_) (fun ck => ?_)
  walk_at "go"
  refine rd_split (fun c8 => ?_) (fun c8 => ?_)
  walk_at "go"
  refine ⟨lk rfl, fun p hp => ?_⟩
  walk_at "go"
  refine use_one (hS1.new hp) (SqL.of upd_same) (hS1.ne hp) (by show 0 < 2; omega) (by show 2 < 1000; omega) fun H2 v s2 hS2 hv => ?_
  obtain ⟨z, rfl, hz⟩ : ∃ z, v = .str z ∧ okS z := (by
    have hv' : v = .str "sum" ∨ v = .str "top" := by simpa using hv
    rcases hv' with rfl | rfl
    · exact ⟨_, rfl, ok6⟩
    · exact ⟨_, rfl, ok7⟩)
  have sA : SB a H H2 := s1.trans ((SB.refl.new hp).trans s2)
  walk_at "go"
  refine ⟨lk rfl, fun t ht => ?_⟩
  walk_at "go"
  refine use_take (hS2.new ht) (by omega) (by omega) fun H3 r s3 hS3 r0 r1 => ?_
  walk_at "go"
  refine use_j hS3 (by omega) (by omega) (by omega) (by omega) (by omega) fun H6 v1 j1 s6 hS6 hr1 hok1 hc1 => ?_
  walk_at "go"
  refine ⟨lk rfl, fun q2 hq2 => ?_⟩
  walk_at "go"
  refine ⟨lk rfl, fun q3 hq3 => ?_⟩
  exact fin _ _ _ _ _ _ _ _ _ (((sA.new ht).trans s3).trans s6) hS6 hz (hS3.ext s6 _ _ ((hS2.new ht).ext s3 _ _ (SqT.of upd_same))) .nil (by simp) (fun d hd => nomatch hd) hr1 hok1 hc1 hq2 hq3
  walk_at "go"
  refine rd_split (fun cl => ?_) (fun cl => ?_)
  walk_at "go"
  refine ⟨lk rfl, fun t ht => ?_⟩
  walk_at "go"
  refine use_j (hS1.new ht) hk1 hk2 (by omega) (by omega) (by omega) fun H6 v1 j1 s6 hS6 hr1 hok1 hc1 => ?_
  walk_at "go"
  refine ⟨lk rfl, fun q2 hq2 => ?_⟩
  walk_at "go"
  refine ⟨lk rfl, fun q3 hq3 => ?_⟩
  exact fin _ _ _ _ _ _ _ _ _ ((s1.new ht).trans s6) hS6 ok8 ((hS1.new ht).ext s6 _ _ (SqT.of upd_same)) .nil (by simp) (fun d hd => nomatch hd) hr1 hok1 hc1 hq2 hq3
  walk_at "go"
  exact ⟨a, k, left, kind, rfl, hS1, hk1, hk2, by omega, hl2, hl3, fun H' v j s hS' hr' hok hc => q H' v j (s1.trans s) hS' hr' hok hc⟩
  walk_at "go"
  refine rd_split (fun cl => ?_) (fun cl => ?_)
  walk_at "go"
  refine ⟨lk rfl, fun t ht => ?_⟩
  walk_at "go"
  refine use_j (hS1.new ht) hk1 hk2 (by omega) (by omega) (by omega) fun H6 v1 j1 s6 hS6 hr1 hok1 hc1 => ?_
  walk_at "go"
  refine ⟨lk rfl, fun q2 hq2 => ?_⟩
  walk_at "go"
  refine ⟨lk rfl, fun q3 hq3 => ?_⟩
  exact fin _ _ _ _ _ _ _ _ _ ((s1.new ht).trans s6) hS6 ok8 ((hS1.new ht).ext s6 _ _ (SqT.of upd_same)) .nil (by simp) (fun d hd => nomatch hd) hr1 hok1 hc1 hq2 hq3
  walk_at "go"
  exact ⟨a, k, left, kind, rfl, hS1, hk1, hk2, by omega, hl2, hl3, fun H' v j s hS' hr' hok hc => q H' v j (s1.trans s) hS' hr' hok hc⟩
  walk_at "go"
  refine rd_split (fun c5 => ?_) (fun c5 => ?_)
  walk_at "go"
  intro D hD
  refine lc_range (lo := 1) (fun i H' => ∃ ns : List Int, H' D = some (.lst (ns.map V.int)) ∧ (∀ n ∈ ns, 1 ≤ n ∧ k % n = 0) ∧ (1 ≤ i → ns ≠ []) ∧ ns.length ≤ i ∧ Same H1 H') ⟨[], upd_same, (fun _ h => nomatch h), (fun h => absurd h (by omega)), Nat.le_refl _, Same.upd_new (Same.refl H1) hD⟩ ?_ ?_
  rintro i H' hi ⟨ns, g1, g2, g3, g4, g5⟩
  have hi2 : i < 16 := hi
  walk_at "go"
  refine ⟨rfl, ?_⟩
  walk_at "go"
  refine rd_split (fun c0 => ?_) (fun c0 => ?_)
  walk_at "go"
  refine ⟨_, g1, by rw [List.length_map]; exact ls (by omega), ns ++ [1 + (i : Int)], by rw [upd_same, List.map_append] <;> rfl, fun n hn => ?_, fun _ h => by simp at h, by rw [List.length_append]; exact Nat.succ_le_succ g4, Same.upd_new g5 hD⟩
  rcases List.mem_append.mp hn with h | h
  exact g2 n h
  rw [show n = 1 + (i : Int) by simpa using h]
  exact ⟨by omega, c0⟩
  refine ⟨ns, g1, g2, fun _ => ?_, by omega, g5⟩
  by_cases i0 : i = 0
  subst i0
  exact absurd (by simp) c0
  exact g3 (by omega)
  rintro H4 ⟨ns, g1, g2, g3, g4, g5⟩
  have g4' : ns.length ≤ 16 := g4
  have sC : SB a H H4 := s1.trans (SB.of_same g5)
  have hS4 : Src H4 a := hS1.same g5
  walk_at "go"
  have ln : 0 < ns.length := List.length_pos_iff.mpr (g3 (by decide))
  refine use_one hS4 (SqL.of g1) (hS1.ne hD) (by rw [List.length_map]; exact ln) (by rw [List.length_map]; omega) fun H5 v s5 hS5 hv => ?_
  obtain ⟨n, hn, rfl⟩ := List.mem_map.mp hv
  obtain ⟨n1, n2⟩ := g2 n hn
  obtain ⟨n3, n4, n5⟩ := mod_le hk1 n1 n2
  walk_at "go"
  refine ⟨lk rfl, fun t ht => ?_⟩
  walk_at "go"
  refine use_j (hS5.new ht) n4 (by omega) (by omega) (by omega) (by omega) fun H6 v1 j1 s6 hS6 hr1 hok1 hc1 => ?_
  walk_at "go"
  refine ⟨lk rfl, fun q2 hq2 => ?_⟩
  walk_at "go"
  refine ⟨lk rfl, fun q3 hq3 => ?_⟩
  exact fin _ _ _ _ _ _ _ _ _ (((sC.trans s5).new ht).trans s6) hS6 ok5 ((hS5.new ht).ext s6 _ _ (SqT.of upd_same)) (.one (.int n)) (by simp) (fl1 n) hr1 hok1 hc1 hq2 hq3
  walk_at "go"
  refine rd_split (fun ck => ?_) (fun ck => ?_)
  walk_at "go"
  refine rd_split (fun c8 => ?_) (fun c8 => ?_)
  walk_at "go"
  refine ⟨lk rfl, fun p hp => ?_⟩
  walk_at "go"
  refine use_one (hS1.new hp) (SqL.of upd_same) (hS1.ne hp) (by show 0 < 2; omega) (by show 2 < 1000; omega) fun H2 v s2 hS2 hv => ?_
  obtain ⟨z, rfl, hz⟩ : ∃ z, v = .str z ∧ okS z := (by
    have hv' : v = .str "sum" ∨ v = .str "top" := by simpa using hv
    rcases hv' with rfl | rfl
    · exact ⟨_, rfl, ok6⟩
    · exact ⟨_, rfl, ok7⟩)
  have sA : SB a H H2 := s1.trans ((SB.refl.new hp).trans s2)
  walk_at "go"
  refine ⟨lk rfl, fun t ht => ?_⟩
  walk_at "go"
  refine use_take (hS2.new ht) (by omega) (by omega) fun H3 r s3 hS3 r0 r1 => ?_
  walk_at "go"
  refine use_j hS3 (by omega) (by omega) (by omega) (by omega) (by omega) fun H6 v1 j1 s6 hS6 hr1 hok1 hc1 => ?_
  walk_at "go"
  refine ⟨lk rfl, fun q2 hq2 => ?_⟩
  walk_at "go"
  refine ⟨lk rfl, fun q3 hq3 => ?_⟩
  exact fin _ _ _ _ _ _ _ _ _ (((sA.new ht).trans s3).trans s6) hS6 hz (hS3.ext s6 _ _ ((hS2.new ht).ext s3 _ _ (SqT.of upd_same))) .nil (by simp) (fun d hd => nomatch hd) hr1 hok1 hc1 hq2 hq3
  walk_at "go"
  refine rd_split (fun cl => ?_) (fun cl => ?_)
  walk_at "go"
  refine ⟨lk rfl, fun t ht => ?_⟩
  walk_at "go"
  refine use_j (hS1.new ht) hk1 hk2 (by omega) (by omega) (by omega) fun H6 v1 j1 s6 hS6 hr1 hok1 hc1 => ?_
  walk_at "go"
  refine ⟨lk rfl, fun q2 hq2 => ?_⟩
  walk_at "go"
  refine ⟨lk rfl, fun q3 hq3 => ?_⟩
  exact fin _ _ _ _ _ _ _ _ _ ((s1.new ht).trans s6) hS6 ok8 ((hS1.new ht).ext s6 _ _ (SqT.of upd_same)) .nil (by simp) (fun d hd => nomatch hd) hr1 hok1 hc1 hq2 hq3
  walk_at "go"
  exact ⟨a, k, left, kind, rfl, hS1, hk1, hk2, by omega, hl2, hl3, fun H' v j s hS' hr' hok hc => q H' v j (s1.trans s) hS' hr' hok hc⟩
  walk_at "go"
  refine rd_split (fun cl => ?_) (fun cl => ?_)
  walk_at "go"
  refine ⟨lk rfl, fun t ht => ?_⟩
  walk_at "go"
  refine use_j (hS1.new ht) hk1 hk2 (by omega) (by omega) (by omega) fun H6 v1 j1 s6 hS6 hr1 hok1 hc1 => ?_
  walk_at "go"
  refine ⟨lk rfl, fun q2 hq2 => ?_⟩
  walk_at "go"
  refine ⟨lk rfl, fun q3 hq3 => ?_⟩
  exact fin _ _ _ _ _ _ _ _ _ ((s1.new ht).trans s6) hS6 ok8 ((hS1.new ht).ext s6 _ _ (SqT.of upd_same)) .nil (by simp) (fun d hd => nomatch hd) hr1 hok1 hc1 hq2 hq3
  walk_at "go"
  exact ⟨a, k, left, kind, rfl, hS1, hk1, hk2, by omega, hl2, hl3, fun H' v j s hS' hr' hok hc => q H' v j (s1.trans s) hS' hr' hok hc⟩
end
end Mine

/-! ### Q1 -/
set_option maxHeartbeats 1000000
namespace Mine
open PySem PySem.Spec L2
local macro_rules | `(tactic| walk_at "st") => `(tactic| first
  | ((with_reducible apply rd_var); exact rfl)
  | (with_reducible apply rd_c)
  | (with_reducible apply rd_seq)
  | (with_reducible apply rd_asg)
  | (with_reducible apply rd_gname)
  | (with_reducible apply rd_op)
  | (with_reducible apply rd_cb)
  | (with_reducible apply rd_cons)
  | (with_reducible apply rd_nil)
  | (with_reducible apply rd_if)
  | (with_reducible apply rd_test)
  | (with_reducible apply rd_bl)
  | (with_reducible apply rd_retE)
  | (with_reducible apply rd_ret)
  | (with_reducible apply rd_call)
  | (with_reducible apply rd_tup)
  | (with_reducible apply rd_lst)
  | (with_reducible apply rd_drop)
  | (with_reducible apply rd_next)
  | (with_reducible apply rd_ife)
  | (with_reducible apply rd_gsub)
  | (with_reducible apply rd_par)
  | (with_reducible apply rd_par_end)
  | (with_reducible apply rd_un)
  | (with_reducible apply rd_and)
  | (with_reducible apply rd_or)
  | (with_reducible apply rd_not)
  | (with_reducible apply rd_andV)
  | (with_reducible apply rd_orV)
  | (with_reducible apply rd_notV)
  | (with_reducible apply rd_chain)
  | (with_reducible apply rd_tB)
  | (with_reducible apply rd_brk)
  | (with_reducible apply rd_ct)
  | (with_reducible apply u_add)
  | (with_reducible apply u_sub)
  | (with_reducible apply u_lt)
  | (with_reducible apply u_le)
  | (with_reducible apply u_gt)
  | (with_reducible apply u_ge)
  | (with_reducible apply u_eqI)
  | (with_reducible apply u_eqS)
  | (with_reducible apply u_neI)
  | (with_reducible apply u_int)
  | (with_reducible apply u_intB)
  | (with_reducible apply u_max)
  | (with_reducible apply u_min)
  | (with_reducible apply u_neg)
  | ((with_reducible apply u_mod); focus first | assumption | decide | omega)
  | ((with_reducible apply u_div); focus first | decide | omega | (constructor <;> first | assumption | omega))
  | ((with_reducible apply u_mul); focus first | exact Or.inl (by omega) | exact Or.inr (by omega) | exact Or.inl (by decide) | exact Or.inr (by decide))
  | ((with_reducible apply u_ixL); (focus (first | assumption | exact SqL.of (by assumption) | exact SqL.of upd_same)); exact rfl)
  | ((with_reducible apply u_lenL); focus (first | assumption | exact SqL.of (by assumption) | exact SqL.of upd_same))
  | ((with_reducible apply u_lenT); focus (first | assumption | exact SqT.of (by assumption) | exact SqT.of upd_same))
  | ((with_reducible apply u_setL); (focus (first | assumption | exact upd_same)); exact rfl)
  | (with_reducible apply rd_chain3)
  | (with_reducible apply rd_tru)
  | (with_reducible apply rd_truB)
  | ((with_reducible apply rd_truL); focus (first | assumption | exact SqL.of (by assumption) | exact SqL.of upd_same))
  | (with_reducible apply rd_bm)
  | (with_reducible apply rd_bm0)
  | ((with_reducible apply rd_tyL); focus (first | exact SqL.of (by assumption) | exact SqL.of upd_same))
  | (with_reducible apply u_min3)
  | (with_reducible apply rd_rev)
  | (with_reducible apply rd_iList)
  | (with_reducible apply rd_iTup)
  | (with_reducible apply rd_for)
  | (with_reducible apply rd_rng1)
  | (with_reducible apply rd_rng2)
  | ((with_reducible apply rd_rng1e); (focus omega); (focus omega))
  | ((with_reducible apply rd_rng2e); (focus omega))
  | (with_reducible apply rd_gcons)
  | (with_reducible apply rd_gnil)
  | (with_reducible apply rd_retN)
  | (with_reducible apply g_eqI)
  | (with_reducible apply g_eqS)
  | (with_reducible apply g_neI)
  | (with_reducible apply g_neS)
  | (with_reducible apply g_neB)
  | (with_reducible apply rd_xf)
  | (with_reducible apply rd_raiseE)
  | (with_reducible apply rd_callS)
  | (with_reducible apply u_inD)
  | (with_reducible apply u_notInD)
  | (with_reducible apply u_inS)
  | (with_reducible apply u_notInS)
  | (with_reducible apply rd_iSeq)
  | ((with_reducible apply rd_seqL); (focus first | assumption | exact SqL.of (by assumption) | exact SqL.of upd_same))
  | ((with_reducible apply rd_seqT); (focus first | assumption | exact SqT.of (by assumption) | exact SqT.of upd_same))
  | (with_reducible apply rd_istr)
  | (with_reducible apply rd_istrE)
  | ((with_reducible apply u_isi); (focus (first | exact Or.inl rfl | exact Or.inr (Or.inl rfl) | exact Or.inr (Or.inr (Or.inl rfl)) | exact Or.inr (Or.inr (Or.inr rfl)))); (focus first | assumption | exact Rp.int _ | exact Rp.str _))
  | ((with_reducible apply rd_itL); (focus first | assumption | exact SqL.of (by assumption) | exact SqL.of upd_same))
  | ((with_reducible apply rd_itT); (focus first | assumption | exact SqT.of (by assumption) | exact SqT.of upd_same))
  | (with_reducible apply rd_lc)
  | (with_reducible apply rd_yes)
  | ((with_reducible apply u_pow); (focus (exact ⟨by decide, by decide, by decide⟩)))
  | (with_reducible apply u_mul; focus exact Or.inr cm)
  | (with_reducible apply rd_par3)
  | (with_reducible apply rd_par3_end)
  | ((with_reducible apply rd_aug); exact rfl)
  | (with_reducible apply rd_ipI)
  | (with_reducible apply rd_dnew)
  | (with_reducible apply rd_din)
  | (with_reducible apply rd_dget)
  | (with_reducible apply rd_dput)
  | (with_reducible apply rd_disp1)
  | (with_reducible apply rd_sl)
  | (with_reducible apply rd_part)
  | (with_reducible apply rd_partI)
  | (with_reducible apply rd_nopart)
  | (with_reducible apply iteT)
  | (with_reducible apply iteF))
local macro_rules | `(tactic| walk_at "go") => `(tactic| repeat (walk_at "st"))
local macro_rules | `(tactic| walk_at "sp") => `(tactic| (first | refine rd_split (fun c => ?_) (fun c => ?_) | refine rd_splitN (fun c => ?_) (fun c => ?_) | refine rd_splitB (fun c => ?_) (fun c => ?_)))
local macro_rules | `(tactic| walk_at "nx") => `(tactic| repeat (first | (with_reducible apply iteF) | (with_reducible apply iteT) | (with_reducible apply rd_next)))

section
variable {P : Program} {w : World} {K : PySem.W.Frag} {mg : Str → Option Value} {base : Heap}
theorem base_joint {l : Nat} (O : OwnF K mg "_law_joint" s_law_joint) : HasF P w K mg base CX0 (l + 1) "_law_joint" ["source", "k", "left"] (spJ K 0) := by
  refine has0 O sc_law_joint (fun _ _ _ _ _ _ us hl => match us, hl with | [_, _, _], _ => rfl) (fun vs H Q E h => ?_) (fun f cdv A outer s_ H vs Q E hr h => ?_)
  · obtain ⟨a, k, left, rfl, _⟩ := h
    rfl
  obtain ⟨a, k, left, _, _, _, _, h1, h2, _⟩ := h
  omega
theorem has_joint (O1 : OwnF K mg "_law_joint" s_law_joint) (O2 : OwnF K mg "_law_forked" s_law_forked) (O3 : OwnF K mg "_law_catted" s_law_catted) (B : Bl mg) (h_law_take : HasF P w K mg base CX0 1 "_law_take" ["source", "top"] spTake) (h_law_one : HasF P w K mg base CX0 2 "_law_one" ["source", "things"] (spOne K)) (h_law_leaf : HasF P w K mg base CX0 4 "_law_leaf" ["source", "k"] (spLeaf K)) :
    ∀ n : Nat, HasF P w K mg base CX0 (4 + 3 * n) "_law_joint" ["source", "k", "left"] (spJ K n)
  | 0 => base_joint (l := 3) O1
  | n + 1 => by
    have ih := has_joint O1 O2 O3 B h_law_take h_law_one h_law_leaf n
    have hc := step_catted (show 1 ≤ 4 + 3 * n by omega) O3 B h_law_take ih
    have hf := step_forked (show 2 ≤ 4 + 3 * n by omega) O2 B h_law_take h_law_one ih hc
    exact step_joint (show 4 ≤ 4 + 3 * n by omega) O1 B h_law_take h_law_one h_law_leaf ih hf
abbrev s_law_program : Stmt := top 43
theorem sc_law_program : FnScope ["source", "most", "k"] ["source", "most"] (defScope s_law_program) := ⟨rfl, rfl, rfl, by decide +kernel, rfl, by decide +kernel, by decide +kernel⟩
def spProg (K : PySem.W.Frag) : Sp := fun vs H Q _ => ∃ (a : Addr) (most : Int), vs = [.ref a, .int most] ∧ Src H a ∧ 1 ≤ most ∧ most ≤ 40 ∧
  ∀ (H' : Hp) (v : V) (j : Jn), SB a H H' → Src H' a → Rp K H' v j.py → j.ok → (j.cnt : Int) ≤ most → Q v H'
theorem use_prog {K : PySem.W.Frag} {a : Addr} {most : Int} {H : Hp} {Q : VK} {E : XK} (h : Src H a) (h1 : 1 ≤ most) (h2 : most ≤ 40) (q : ∀ (H' : Hp) (v : V) (j : Jn), SB a H H' → Src H' a → Rp K H' v j.py → j.ok → (j.cnt : Int) ≤ most → Q v H') :
    spProg K [.ref a, .int most] H Q E := ⟨a, most, rfl, h, h1, h2, q⟩
theorem has_program (O : OwnF K mg "_law_program" s_law_program) (h_law_take : HasF P w K mg base CX0 1 "_law_take" ["source", "top"] spTake) (h_law_one : HasF P w K mg base CX0 2 "_law_one" ["source", "things"] (spOne K)) (h_law_joint : HasF P w K mg base CX0 124 "_law_joint" ["source", "k", "left"] (spJ K 40)) : HasF P w K mg base CX0 125 "_law_program" ["source", "most"] (spProg K) := by
  refine has0 O sc_law_program (fun _ _ _ _ _ _ us hl => match us, hl with | [_, _], _ => rfl) (fun vs H Q E h => ?_) (fun f cdv A outer s_ H vs Q E hr h => ?_)
  · obtain ⟨a, most, rfl, _⟩ := h
    rfl
  obtain ⟨a, most, rfl, hS, h1, h2, q⟩ := h
  refine ⟨_, (pss_cons (ps_set (i := 2) sc_law_program.nd rfl (by first | exact Or.inl rfl | exact Or.inr rfl) (pe_callH h_law_one (hr.mono (by first | decide | omega)) (by rfl) pass0 (pa_cons (pv 0) (pa_cons (pe_lst (pa_cons pe_int (pa_cons pe_int (pa_cons pe_int (pa_cons pe_int (pa_cons pe_int (pa_cons pe_int (pa_cons pe_int (pa_cons pe_int (pa_cons (pe_op (kAdd K) pe_int (pe_callH h_law_take (hr.mono (by first | decide | omega)) (by rfl) pass0 (pa_cons (pv 0) (pa_cons pe_int pa_nil)))) pa_nil)))))))))) pa_nil)))) (pss_one (ps_ret (pe_callH h_law_joint (hr.mono (by first | decide | omega)) (by rfl) pass0 (pa_cons (pv 0) (pa_cons (pv 2) (pa_cons (pv 1) pa_nil))))))), ?_⟩
  refine st0 [some (.ref a), some (.int most), none] rfl ?_
  walk_at "go"
  refine use_take hS (by omega) (by omega) fun H1 r s1 hS1 r0 r1 => ?_
  walk_at "go"
  refine ⟨lk rfl, fun p hp => ?_⟩
  walk_at "go"
  refine use_one (hS1.new hp) (SqL.of upd_same) (hS1.ne hp) (by show 0 < 9; omega) (by show 9 < 1000; omega) fun H2 v s2 hS2 hv => ?_
  obtain ⟨k, rfl, k1, k2⟩ : ∃ k, v = .int k ∧ 1 ≤ k ∧ k ≤ 64 := by
    have hv' : v ∈ ([1, 1, 2, 3, 4, 5, 6, 12, 1 + r] : List Int).map V.int := hv
    obtain ⟨k, hk, rfl⟩ := List.mem_map.mp hv'
    refine ⟨k, rfl, ?_⟩
    simp only [List.mem_cons, List.not_mem_nil, or_false] at hk
    omega
  walk_at "go"
  refine use_j hS2 k1 k2 h1 (by omega) h2 fun H3 v j s3 hS3 hr3 hok hc => ?_
  exact q H3 v j (s1.trans ((SB.refl.new hp).trans (s2.trans s3))) hS3 hr3 hok hc
abbrev s_law_listed : Stmt := top 44
theorem sc_law_listed : FnScope ["joint", "found", "part"] ["joint"] (defScope s_law_listed) := ⟨rfl, rfl, rfl, by decide +kernel, rfl, by decide +kernel, by decide +kernel⟩
/-- all joints, in a new list -/
def spLs (K : PySem.W.Frag) (n : Nat) : Sp := fun vs H Q _ => ∃ (v : V) (j : Jn), vs = [v] ∧ Rp K H v j.py ∧ j.ok ∧ j.cnt ≤ n ∧ j.cnt ≤ 40 ∧
  ∀ (H' : Hp) (b : Addr) (ws : List V), Same H H' → H b = none → H' b = some (.lst ws) → Rps K H' ws (Jn.pys j.all) → Q (.ref b) H'
theorem use_ls {K : PySem.W.Frag} {n : Nat} {v : V} {j : Jn} {H : Hp} {Q : VK} {E : XK} (h : Rp K H v j.py) (h1 : j.ok) (h2 : j.cnt ≤ n) (h3 : j.cnt ≤ 40) (q : ∀ (H' : Hp) (b : Addr) (ws : List V), Same H H' → H b = none → H' b = some (.lst ws) → Rps K H' ws (Jn.pys j.all) → Q (.ref b) H') :
    spLs K n [v] H Q E := ⟨v, j, rfl, h, h1, h2, h3, q⟩
theorem base_listed {l : Nat} (O : OwnF K mg "_law_listed" s_law_listed) : HasF P w K mg base CX0 (l + 1) "_law_listed" ["joint"] (spLs K 0) := by
  refine has0 O sc_law_listed (fun _ _ _ _ _ _ us hl => match us, hl with | [_], _ => rfl) (fun vs H Q E h => ?_) (fun f cdv A outer s_ H vs Q E hr h => ?_)
  · obtain ⟨v, j, rfl, _⟩ := h
    rfl
  obtain ⟨v, j, _, _, _, h1, _⟩ := h
  have := cnt_pos j
  omega
theorem step_listed {n l : Nat} (O : OwnF K mg "_law_listed" s_law_listed) (h_law_listed : HasF P w K mg base CX0 l "_law_listed" ["joint"] (spLs K n)) : HasF P w K mg base CX0 (l + 1) "_law_listed" ["joint"] (spLs K (n + 1)) := by
  refine has0 O sc_law_listed (fun _ _ _ _ _ _ us hl => match us, hl with | [_], _ => rfl) (fun vs H Q E h => ?_) (fun f cdv A outer s_ H vs Q E hr h => ?_)
  · obtain ⟨v, j, rfl, _⟩ := h
    rfl
  obtain ⟨v, j, rfl, r, hok, hn, h40, q⟩ := h
  refine ⟨_, (pss_cons (ps_set (i := 1) sc_law_listed.nd rfl (by first | exact Or.inl rfl | exact Or.inr rfl) (pe_lst (pa_cons (pv 0) pa_nil))) (pss_cons (ps_for PassesOwn.never rfl (pi_tupK K (pe_ix (kIx K) (pv 0) pe_int (fun _ _ => rfl))) (pg_name (i := 2) sc_law_listed.nd rfl (by first | exact Or.inl rfl | exact Or.inr rfl)) (pss_one (ps_set (i := 1) sc_law_listed.nd rfl (by first | exact Or.inl rfl | exact Or.inr rfl) (pe_op (kAdd K) (pv 1) (pe_callH h_law_listed (hr.mono (by first | decide | omega)) (by rfl) pass0 (pa_cons (pv 2) pa_nil)))))) (pss_one (ps_ret (pv 1))))), ?_⟩
  refine st0 [some v, none, none] rfl ?_
  walk_at "go"
  refine ⟨lk rfl, fun p hp => ?_⟩
  obtain ⟨op, td, parts⟩ := j
  obtain ⟨pj, t, qa, tv, pv, rfl, hsj, _, _, hsq, hRq⟩ := r.jn
  have h' := hok
  simp only [Jn.ok] at h'
  have hoks := h'.2.2.2.2
  have hcn : 1 + Jn.cnts parts ≤ n + 1 := by simpa only [Jn.cnt] using hn
  have hc40 : 1 + Jn.cnts parts ≤ 40 := by simpa only [Jn.cnt] using h40
  have lp : pv.length = parts.length := by rw [hRq.length, pys_length]
  have sP := same_new hp (.lst [V.ref pj])
  walk_at "go"
  refine u_ixT (Ext.of_same sP _ _ hsj) rfl ?_
  walk_at "go"
  refine rd_itT (Ext.of_same sP _ _ hsq) ?_
  refine forT (xs := pv) (fun i σ H' => ∃ (b : Addr) (ws : List V) (o1 : Option V), σ = [some (.ref pj), some (.ref b), o1] ∧ Same H H' ∧ H b = none ∧ H' b = some (.lst ws) ∧ Rps K H' ws (Jn.pys (Jn.mk op td parts :: Jn.alls (parts.take i))))
    ⟨p, [.ref pj], none, rfl, sP, hp, upd_same, ?_⟩ ?_ ?_ ?_
  · simp only [List.take_zero, Jn.alls, Jn.pys]
    exact .one (r.mono (Ext.of_same sP) _ _)
  · rintro i σ H' hi ⟨b, ws, o1, rfl, g1, g2, g3, g4⟩
    exact Ext.of_same g1 _ _ hsq
  · rintro i x σ H' hx ⟨b, ws, o1, rfl, g1, g2, g3, g4⟩
    obtain ⟨jx, ex, rx⟩ := hRq.part hx
    have jm : jx ∈ parts := List.mem_of_getElem? ex
    have jc := cnts_mem jm
    walk_at "go"
    refine use_ls (rx.mono (Ext.of_same g1) _ _) (oks_mem hoks jm) (by omega) (by omega) fun H2 b2 ws2 s2 n2 e2 r2 => ?_
    have l1 := g4.length
    have l2 := r2.length
    rw [pys_length] at l1 l2
    rw [all_cnt] at l2
    rw [List.length_cons, alls_cnt] at l1
    have l3 := cnts_take parts i
    walk_at "go"
    refine u_addL (s2 _ _ g3) e2 (ll (by omega)) fun p3 hp3 => ?_
    walk_at "go"
    refine ⟨p3, ws ++ ws2, _, rfl, Same.new (g1.trans s2) hp3, ?_, upd_same, ?_⟩
    · cases hh : H p3 with
      | none => rfl
      | some o => rw [(g1.trans s2) _ _ hh] at hp3; cases hp3
    · rw [alls_take ex]
      have e3 : Jn.pys (Jn.mk op td parts :: (Jn.alls (parts.take i) ++ jx.all)) = Jn.pys (Jn.mk op td parts :: Jn.alls (parts.take i)) ++ Jn.pys jx.all := by
        rw [← pys_append] <;> rfl
      rw [e3]
      exact ((g4.mono (Ext.of_same s2) _ _).append r2).mono (Ext.new hp3) _ _
  · rintro σ H' ⟨b, ws, o1, rfl, g1, g2, g3, g4⟩
    walk_at "go"
    refine q H' b ws g1 g2 g3 ?_
    rw [lp, List.take_length] at g4
    simp only [Jn.all]
    exact g4
theorem has_listed (O : OwnF K mg "_law_listed" s_law_listed) : ∀ n : Nat, HasF P w K mg base CX0 (1 + n) "_law_listed" ["joint"] (spLs K n)
  | 0 => base_listed O
  | n + 1 => step_listed O (has_listed O n)
end
end Mine

/-! ### Q2 -/
set_option maxHeartbeats 1000000
namespace Mine
open PySem PySem.Spec L2
local macro_rules | `(tactic| walk_at "st") => `(tactic| first
  | ((with_reducible apply rd_var); exact rfl)
  | (with_reducible apply rd_c)
  | (with_reducible apply rd_seq)
  | (with_reducible apply rd_asg)
  | (with_reducible apply rd_gname)
  | (with_reducible apply rd_op)
  | (with_reducible apply rd_cb)
  | (with_reducible apply rd_cons)
  | (with_reducible apply rd_nil)
  | (with_reducible apply rd_if)
  | (with_reducible apply rd_test)
  | (with_reducible apply rd_bl)
  | (with_reducible apply rd_retE)
  | (with_reducible apply rd_ret)
  | (with_reducible apply rd_call)
  | (with_reducible apply rd_tup)
  | (with_reducible apply rd_lst)
  | (with_reducible apply rd_drop)
  | (with_reducible apply rd_next)
  | (with_reducible apply rd_ife)
  | (with_reducible apply rd_gsub)
  | (with_reducible apply rd_par)
  | (with_reducible apply rd_par_end)
  | (with_reducible apply rd_un)
  | (with_reducible apply rd_and)
  | (with_reducible apply rd_or)
  | (with_reducible apply rd_not)
  | (with_reducible apply rd_andV)
  | (with_reducible apply rd_orV)
  | (with_reducible apply rd_notV)
  | (with_reducible apply rd_chain)
  | (with_reducible apply rd_tB)
  | (with_reducible apply rd_brk)
  | (with_reducible apply rd_ct)
  | (with_reducible apply u_add)
  | (with_reducible apply u_sub)
  | (with_reducible apply u_lt)
  | (with_reducible apply u_le)
  | (with_reducible apply u_gt)
  | (with_reducible apply u_ge)
  | (with_reducible apply u_eqI)
  | (with_reducible apply u_eqS)
  | (with_reducible apply u_neI)
  | (with_reducible apply u_int)
  | (with_reducible apply u_intB)
  | (with_reducible apply u_max)
  | (with_reducible apply u_min)
  | (with_reducible apply u_neg)
  | ((with_reducible apply u_mod); focus first | assumption | decide | omega)
  | ((with_reducible apply u_div); focus first | decide | omega | (constructor <;> first | assumption | omega))
  | ((with_reducible apply u_mul); focus first | exact Or.inl (by omega) | exact Or.inr (by omega) | exact Or.inl (by decide) | exact Or.inr (by decide))
  | ((with_reducible apply u_ixL); (focus (first | assumption | exact SqL.of (by assumption) | exact SqL.of upd_same)); exact rfl)
  | ((with_reducible apply u_lenL); focus (first | assumption | exact SqL.of (by assumption) | exact SqL.of upd_same))
  | ((with_reducible apply u_lenT); focus (first | assumption | exact SqT.of (by assumption) | exact SqT.of upd_same))
  | ((with_reducible apply u_setL); (focus (first | assumption | exact upd_same)); exact rfl)
  | (with_reducible apply rd_chain3)
  | (with_reducible apply rd_tru)
  | (with_reducible apply rd_truB)
  | ((with_reducible apply rd_truL); focus (first | assumption | exact SqL.of (by assumption) | exact SqL.of upd_same))
  | (with_reducible apply rd_bm)
  | (with_reducible apply rd_bm0)
  | ((with_reducible apply rd_tyL); focus (first | exact SqL.of (by assumption) | exact SqL.of upd_same))
  | (with_reducible apply u_min3)
  | (with_reducible apply rd_rev)
  | (with_reducible apply rd_iList)
  | (with_reducible apply rd_iTup)
  | (with_reducible apply rd_for)
  | (with_reducible apply rd_rng1)
  | (with_reducible apply rd_rng2)
  | ((with_reducible apply rd_rng1e); (focus omega); (focus omega))
  | ((with_reducible apply rd_rng2e); (focus omega))
  | (with_reducible apply rd_gcons)
  | (with_reducible apply rd_gnil)
  | (with_reducible apply rd_retN)
  | (with_reducible apply g_eqI)
  | (with_reducible apply g_eqS)
  | (with_reducible apply g_neI)
  | (with_reducible apply g_neS)
  | (with_reducible apply g_neB)
  | (with_reducible apply rd_xf)
  | (with_reducible apply rd_raiseE)
  | (with_reducible apply rd_callS)
  | (with_reducible apply u_inD)
  | (with_reducible apply u_notInD)
  | (with_reducible apply u_inS)
  | (with_reducible apply u_notInS)
  | (with_reducible apply rd_iSeq)
  | ((with_reducible apply rd_seqL); (focus first | assumption | exact SqL.of (by assumption) | exact SqL.of upd_same))
  | ((with_reducible apply rd_seqT); (focus first | assumption | exact SqT.of (by assumption) | exact SqT.of upd_same))
  | (with_reducible apply rd_istr)
  | (with_reducible apply rd_istrE)
  | ((with_reducible apply u_isi); (focus (first | exact Or.inl rfl | exact Or.inr (Or.inl rfl) | exact Or.inr (Or.inr (Or.inl rfl)) | exact Or.inr (Or.inr (Or.inr rfl)))); (focus first | assumption | exact Rp.int _ | exact Rp.str _))
  | ((with_reducible apply rd_itL); (focus first | assumption | exact SqL.of (by assumption) | exact SqL.of upd_same))
  | ((with_reducible apply rd_itT); (focus first | assumption | exact SqT.of (by assumption) | exact SqT.of upd_same))
  | (with_reducible apply rd_lc)
  | (with_reducible apply rd_yes)
  | ((with_reducible apply u_pow); (focus (exact ⟨by decide, by decide, by decide⟩)))
  | (with_reducible apply u_mul; focus exact Or.inr cm)
  | (with_reducible apply rd_par3)
  | (with_reducible apply rd_par3_end)
  | ((with_reducible apply rd_aug); exact rfl)
  | (with_reducible apply rd_ipI)
  | (with_reducible apply rd_dnew)
  | (with_reducible apply rd_din)
  | (with_reducible apply rd_dget)
  | (with_reducible apply rd_dput)
  | (with_reducible apply rd_disp1)
  | (with_reducible apply rd_sl)
  | (with_reducible apply rd_part)
  | (with_reducible apply rd_partI)
  | (with_reducible apply rd_nopart)
  | (with_reducible apply iteT)
  | (with_reducible apply iteF))
local macro_rules | `(tactic| walk_at "go") => `(tactic| repeat (walk_at "st"))
local macro_rules | `(tactic| walk_at "sp") => `(tactic| (first | refine rd_split (fun c => ?_) (fun c => ?_) | refine rd_splitN (fun c => ?_) (fun c => ?_) | refine rd_splitB (fun c => ?_) (fun c => ?_)))
local macro_rules | `(tactic| walk_at "nx") => `(tactic| repeat (first | (with_reducible apply iteF) | (with_reducible apply iteT) | (with_reducible apply rd_next)))

section
variable {P : Program} {w : World} {K : PySem.W.Frag} {mg : Str → Option Value} {base : Heap}
/-- what stands in a dict of news is plain data -/
def News (K : PySem.W.Frag) (m : Nat) (H : Hp) (kvs : List (Key × V)) : Prop := ∀ kv ∈ kvs, Dt K m H kv.2
theorem News.get {K : PySem.W.Frag} {m : Nat} {H : Hp} {kvs : List (Key × V)} {k : Key} {v : V} (h : News K m H kvs) (e : valV kvs k = some v) : Dt K m H v := by
  unfold valV at e
  cases e2 : kvs.find? fun kv => decide (kv.1 = k) with
  | none => rw [e2] at e; cases e
  | some kv => rw [e2] at e; cases e; exact h _ (List.mem_of_find?_eq_some e2)
theorem News.mono {K : PySem.W.Frag} {m : Nat} {H H' : Hp} {kvs : List (Key × V)} (h : News K m H kvs) (e : Ext K H H') : News K m H' kvs := fun kv hkv => (h kv hkv).mono e
theorem News.put {K : PySem.W.Frag} {m : Nat} {H : Hp} {kvs : List (Key × V)} {k : Key} {v : V} (h : News K m H kvs) (d : Dt K m H v) : News K m H (putK kvs k v) := fun kv hkv => by
  unfold putK at hkv
  split at hkv
  · obtain ⟨kv0, h0, rfl⟩ := List.mem_map.mp hkv
    split
    · exact d
    · exact h kv0 h0
  · rcases List.mem_append.mp hkv with h1 | h1
    · exact h kv h1
    · rw [show kv = (k, v) by simpa using h1]
      exact d
/-- the joint with news in the place of some joints -/
def spPut (K : PySem.W.Frag) (n : Nat) : Sp := fun vs H Q _ => ∃ (v : V) (j : Jn) (i : Int) (d : Addr) (kvs : List (Key × V)) (m : Nat), vs = [v, .int i, .ref d] ∧ Rp K H v j.py ∧ j.ok ∧ j.cnt ≤ n ∧ j.cnt ≤ 40 ∧ H d = some (.dK kvs) ∧ News K m H kvs ∧
  ∀ (H' : Hp) (u : V), Same H H' → Dt K (2 * j.cnt + m) H' u → Q u H'
theorem use_put {K : PySem.W.Frag} {n m : Nat} {v : V} {j : Jn} {i : Int} {d : Addr} {kvs : List (Key × V)} {H : Hp} {Q : VK} {E : XK} (h : Rp K H v j.py) (h1 : j.ok) (h2 : j.cnt ≤ n) (h3 : j.cnt ≤ 40) (h4 : H d = some (.dK kvs)) (h5 : News K m H kvs)
    (q : ∀ (H' : Hp) (u : V), Same H H' → Dt K (2 * j.cnt + m) H' u → Q u H') : spPut K n [v, .int i, .ref d] H Q E := ⟨v, j, i, d, kvs, m, rfl, h, h1, h2, h3, h4, h5, q⟩
abbrev s_law_put : Stmt := top 45
theorem sc_law_put : FnScope ["joint", "number", "news", "at", "parts", "part"] ["joint", "number", "news"] (defScope s_law_put) := ⟨rfl, rfl, rfl, by decide +kernel, rfl, by decide +kernel, by decide +kernel⟩
theorem base_put {l : Nat} (O : OwnF K mg "_law_put" s_law_put) : HasF P w K mg base CX0 (l + 1) "_law_put" ["joint", "number", "news"] (spPut K 0) := by
  refine has0 O sc_law_put (fun _ _ _ _ _ _ us hl => match us, hl with | [_, _, _], _ => rfl) (fun vs H Q E h => ?_) (fun f cdv A outer s_ H vs Q E hr h => ?_)
  · obtain ⟨v, j, i, d, kvs, m, rfl, _⟩ := h
    rfl
  obtain ⟨v, j, i, d, kvs, m, _, _, _, h1, _⟩ := h
  have := cnt_pos j
  omega
theorem step_put {n l : Nat} (hl : 41 ≤ l) (O : OwnF K mg "_law_put" s_law_put) (B : Bl mg) (h_law_listed : HasF P w K mg base CX0 41 "_law_listed" ["joint"] (spLs K 40)) (h_law_put : HasF P w K mg base CX0 l "_law_put" ["joint", "number", "news"] (spPut K n)) :
    HasF P w K mg base CX0 (l + 1) "_law_put" ["joint", "number", "news"] (spPut K (n + 1)) := by
  refine has0 O sc_law_put (fun _ _ _ _ _ _ us hl => match us, hl with | [_, _, _], _ => rfl) (fun vs H Q E h => ?_) (fun f cdv A outer s_ H vs Q E hr h => ?_)
  · obtain ⟨v, j, i, d, kvs, m, rfl, _⟩ := h
    rfl
  obtain ⟨v, j, i, d, kvs, m, rfl, r, hok, hn, h40, hd, hN, q⟩ := h
  refine ⟨_, (pss_cons (ps_if (pt_cmp (pc_din (hu_of hr) (pv 1) (pv 2))) (pss_one (ps_ret (pe_dget (hu_of hr) (pv 2) (pv 1) (fun _ _ => rfl)))) pss_nil) (pss_cons (ps_par (i := 3) (j := 4) (by rfl) sc_law_put.nd rfl rfl (by decide) rfl rfl (pa_cons (pe_op (kAdd K) (pv 1) pe_int) (pa_cons (pe_lst pa_nil) pa_nil)) (by rfl)) (pss_cons (ps_for PassesOwn.never rfl (pi_tupK K (pe_ix (kIx K) (pv 0) pe_int (fun _ _ => rfl))) (pg_name (i := 5) sc_law_put.nd rfl (by first | exact Or.inl rfl | exact Or.inr rfl)) (pss_cons (ps_expr (pe_bmK K PySem.F.plainAttrs_list PySem.F.slot_list_append PySem.F.type_list_append mt_append (pv 4) (pa_cons (pe_callH h_law_put (hr.mono (by first | decide | omega)) (by rfl) pass0 (pa_cons (pv 5) (pa_cons (pv 3) (pa_cons (pv 2) pa_nil)))) pa_nil))) (pss_one (ps_set (i := 3) sc_law_put.nd rfl (by first | exact Or.inl rfl | exact Or.inr rfl) (pe_op (kAdd K) (pv 3) (pe_callB (kLen K) (by rfl) B.len (by decide +kernel) (pa_cons (pe_callH h_law_listed (hr.mono (by first | decide | omega)) (by rfl) pass0 (pa_cons (pv 5) pa_nil)) pa_nil))))))) (pss_one (ps_ret (pe_tup (pa_cons (pe_ix (kIx K) (pv 0) pe_int (fun _ _ => rfl)) (pa_cons (pe_ix (kIx K) (pv 0) pe_int (fun _ _ => rfl)) (pa_cons (pe_callTy (kTup K) (by rfl) B.tuple (by decide +kernel) (pa_cons (pv 4) pa_nil)) pa_nil))))))))), ?_⟩
  refine st0 [some v, some (.int i), some (.ref d), none, none, none] rfl ?_
  walk_at "go"
  refine u_din hd ?_
  walk_at "go"
  cases ev : valV kvs (Sum.inl i) with
  | some u =>
    refine iteT ?_
    walk_at "go"
    refine u_dget hd ev ?_
    exact q H u (Same.refl H) ((hN.get ev).le (by omega))
  | none =>
  refine iteF ?_
  obtain ⟨op, td, parts⟩ := j
  obtain ⟨pj, t, qa, tv, pv, rfl, hsj, hst, hRt, hsq, hRq⟩ := r.jn
  have h' := hok
  simp only [Jn.ok] at h'
  obtain ⟨hop, htl, htf, hpl, hoks⟩ := h'
  have hcn : 1 + Jn.cnts parts ≤ n + 1 := by simpa only [Jn.cnt] using hn
  have hc40 : 1 + Jn.cnts parts ≤ 40 := by simpa only [Jn.cnt] using h40
  have lp : pv.length = parts.length := by rw [hRq.length, pys_length]
  walk_at "go"
  refine ⟨lk rfl, fun p hp => ?_⟩
  have sP := same_new hp (.lst [])
  walk_at "go"
  refine u_ixT (Ext.of_same sP _ _ hsj) rfl ?_
  walk_at "go"
  refine rd_itT (Ext.of_same sP _ _ hsq) ?_
  refine forT (xs := pv) (fun k σ H' => ∃ (at_ : Int) (b : Addr) (ws : List V) (o1 : Option V), σ = [some (.ref pj), some (.int i), some (.ref d), some (.int at_), some (.ref p), o1] ∧ Same H H' ∧ H' p = some (.lst ws) ∧ ws.length = k ∧ ∀ x ∈ ws, Dt K (2 * Jn.cnts parts + m) H' x)
    ⟨_, p, [], none, rfl, sP, upd_same, rfl, fun _ z => nomatch z⟩ ?_ ?_ ?_
  · rintro k σ H' hi ⟨at_, b, ws, o1, rfl, g1, g2, g3, g4⟩
    exact Ext.of_same g1 _ _ hsq
  · rintro k x σ H' hx ⟨at_, b, ws, o1, rfl, g1, g2, g3, g4⟩
    obtain ⟨jx, ex, rx⟩ := hRq.part hx
    have jm : jx ∈ parts := List.mem_of_getElem? ex
    have jc := cnts_mem jm
    have kl : k < pv.length := (List.getElem?_eq_some_iff.mp hx).1
    walk_at "go"
    refine use_put (rx.mono (Ext.of_same g1) _ _) (oks_mem hoks jm) (by omega) (by omega) (g1 _ _ hd) (hN.mono (Ext.of_same g1)) fun H2 u s2 hu => ?_
    have e2 := s2 _ _ g2
    walk_at "go"
    refine u_app e2 (ls (by omega)) ?_
    have s3 : Same H (upd H2 p (.lst (ws ++ [u]))) := Same.upd_new (g1.trans s2) hp
    have x3 : Ext K H2 (upd H2 p (.lst (ws ++ [u]))) := Ext.set e2 trivial
    have e3 : (upd H2 p (.lst (ws ++ [u]))) p = some (.lst (ws ++ [u])) := upd_same
    have d3 : ∀ x ∈ ws ++ [u], Dt K (2 * Jn.cnts parts + m) (upd H2 p (.lst (ws ++ [u]))) x := fun x hx => by
      rcases List.mem_append.mp hx with h | h
      · exact ((g4 x h).mono (Ext.of_same s2)).mono x3
      · rw [show x = u by simpa using h]
        exact (hu.mono x3).le (by omega)
    generalize upd H2 p (.lst (ws ++ [u])) = H3 at *
    walk_at "go"
    refine use_ls (rx.mono (Ext.of_same s3) _ _) (oks_mem hoks jm) (by omega) (by omega) fun H4 b2 ws2 s4 n4 e4 r4 => ?_
    walk_at "go"
    exact ⟨_, p, _, _, rfl, s3.trans s4, s4 _ _ e3, by rw [List.length_append, g3] <;> rfl, fun x hx => (d3 x hx).mono (Ext.of_same s4)⟩
  · rintro σ H' ⟨at_, b, ws, o1, rfl, g1, g2, g3, g4⟩
    have hsj' := Ext.of_same g1 _ _ hsj
    walk_at "go"
    refine u_ixT hsj' rfl ?_
    walk_at "go"
    refine u_ixT hsj' rfl ?_
    walk_at "go"
    refine u_tupL (SqL.of g2) fun p2 hp2 => ?_
    walk_at "go"
    refine ⟨lk rfl, fun p3 hp3 => ?_⟩
    have x2 : Ext K H' (upd H' p2 (.tup ws)) := Ext.new hp2
    have x3 := Ext.new (K := K) (o := .tup [.str op, .ref t, .ref p2]) hp3
    have f1 : Dt K (2 * Jn.cnts parts + m + 1) (upd H' p2 (.tup ws)) (.ref t) :=
      (Dt.tup (n := 0) (Dt.parts ((hRt.mono (Ext.of_same g1) _ _).mono x2 _ _) (flat_dats htf) (by rw [flat_depth htf] <;> exact Nat.le_refl _)) (by rw [hRt.length]; omega) (x2 _ _ (Ext.of_same g1 _ _ hst))).le (by omega)
    have f2 : Dt K (2 * Jn.cnts parts + m + 1) (upd H' p2 (.tup ws)) (.ref p2) := Dt.tup (fun x hx => (g4 x hx).mono x2) (by omega) (SqT.of upd_same)
    have f3 : Dt K (2 * Jn.cnts parts + m + 1 + 1) (upd (upd H' p2 (.tup ws)) p3 (.tup [.str op, .ref t, .ref p2])) (.ref p3) := by
      refine Dt.tup (fun x hx => ?_) (by show 3 ≤ 1000; decide) (SqT.of upd_same)
      simp only [List.mem_cons, List.not_mem_nil, or_false] at hx
      rcases hx with rfl | rfl | rfl
      · exact Dt.str hop
      · exact f1.mono x3
      · exact f2.mono x3
    exact q _ _ (Same.new (Same.new g1 hp2) hp3) (f3.le (by simp only [Jn.cnt]; omega))
theorem has_put (O : OwnF K mg "_law_put" s_law_put) (B : Bl mg) (h_law_listed : HasF P w K mg base CX0 41 "_law_listed" ["joint"] (spLs K 40)) : ∀ n : Nat, HasF P w K mg base CX0 (41 + n) "_law_put" ["joint", "number", "news"] (spPut K n)
  | 0 => base_put (l := 40) O
  | n + 1 => step_put (Nat.le_add_right 41 n) O B h_law_listed (has_put O B h_law_listed n)
end
end Mine

/-! ### Q3 -/
set_option maxHeartbeats 1000000
namespace Mine
open PySem PySem.Spec L2
local macro_rules | `(tactic| walk_at "st") => `(tactic| first
  | ((with_reducible apply rd_var); exact rfl)
  | (with_reducible apply rd_c)
  | (with_reducible apply rd_seq)
  | (with_reducible apply rd_asg)
  | (with_reducible apply rd_gname)
  | (with_reducible apply rd_op)
  | (with_reducible apply rd_cb)
  | (with_reducible apply rd_cons)
  | (with_reducible apply rd_nil)
  | (with_reducible apply rd_if)
  | (with_reducible apply rd_test)
  | (with_reducible apply rd_bl)
  | (with_reducible apply rd_retE)
  | (with_reducible apply rd_ret)
  | (with_reducible apply rd_call)
  | (with_reducible apply rd_tup)
  | (with_reducible apply rd_lst)
  | (with_reducible apply rd_drop)
  | (with_reducible apply rd_next)
  | (with_reducible apply rd_ife)
  | (with_reducible apply rd_gsub)
  | (with_reducible apply rd_par)
  | (with_reducible apply rd_par_end)
  | (with_reducible apply rd_un)
  | (with_reducible apply rd_and)
  | (with_reducible apply rd_or)
  | (with_reducible apply rd_not)
  | (with_reducible apply rd_andV)
  | (with_reducible apply rd_orV)
  | (with_reducible apply rd_notV)
  | (with_reducible apply rd_chain)
  | (with_reducible apply rd_tB)
  | (with_reducible apply rd_brk)
  | (with_reducible apply rd_ct)
  | (with_reducible apply u_add)
  | (with_reducible apply u_sub)
  | (with_reducible apply u_lt)
  | (with_reducible apply u_le)
  | (with_reducible apply u_gt)
  | (with_reducible apply u_ge)
  | (with_reducible apply u_eqI)
  | (with_reducible apply u_eqS)
  | (with_reducible apply u_neI)
  | (with_reducible apply u_int)
  | (with_reducible apply u_intB)
  | (with_reducible apply u_max)
  | (with_reducible apply u_min)
  | (with_reducible apply u_neg)
  | ((with_reducible apply u_mod); focus first | assumption | decide | omega)
  | ((with_reducible apply u_div); focus first | decide | omega | (constructor <;> first | assumption | omega))
  | ((with_reducible apply u_mul); focus first | exact Or.inl (by omega) | exact Or.inr (by omega) | exact Or.inl (by decide) | exact Or.inr (by decide))
  | ((with_reducible apply u_ixL); (focus (first | assumption | exact SqL.of (by assumption) | exact SqL.of upd_same)); exact rfl)
  | ((with_reducible apply u_lenL); focus (first | assumption | exact SqL.of (by assumption) | exact SqL.of upd_same))
  | ((with_reducible apply u_lenT); focus (first | assumption | exact SqT.of (by assumption) | exact SqT.of upd_same))
  | ((with_reducible apply u_setL); (focus (first | assumption | exact upd_same)); exact rfl)
  | (with_reducible apply rd_chain3)
  | (with_reducible apply rd_tru)
  | (with_reducible apply rd_truB)
  | ((with_reducible apply rd_truL); focus (first | assumption | exact SqL.of (by assumption) | exact SqL.of upd_same))
  | (with_reducible apply rd_bm)
  | (with_reducible apply rd_bm0)
  | ((with_reducible apply rd_tyL); focus (first | exact SqL.of (by assumption) | exact SqL.of upd_same))
  | (with_reducible apply u_min3)
  | (with_reducible apply rd_rev)
  | (with_reducible apply rd_iList)
  | (with_reducible apply rd_iTup)
  | (with_reducible apply rd_for)
  | (with_reducible apply rd_rng1)
  | (with_reducible apply rd_rng2)
  | ((with_reducible apply rd_rng1e); (focus omega); (focus omega))
  | ((with_reducible apply rd_rng2e); (focus omega))
  | (with_reducible apply rd_gcons)
  | (with_reducible apply rd_gnil)
  | (with_reducible apply rd_retN)
  | (with_reducible apply g_eqI)
  | (with_reducible apply g_eqS)
  | (with_reducible apply g_neI)
  | (with_reducible apply g_neS)
  | (with_reducible apply g_neB)
  | (with_reducible apply rd_xf)
  | (with_reducible apply rd_raiseE)
  | (with_reducible apply rd_callS)
  | (with_reducible apply u_inD)
  | (with_reducible apply u_notInD)
  | (with_reducible apply u_inS)
  | (with_reducible apply u_notInS)
  | (with_reducible apply rd_iSeq)
  | ((with_reducible apply rd_seqL); (focus first | assumption | exact SqL.of (by assumption) | exact SqL.of upd_same))
  | ((with_reducible apply rd_seqT); (focus first | assumption | exact SqT.of (by assumption) | exact SqT.of upd_same))
  | (with_reducible apply rd_istr)
  | (with_reducible apply rd_istrE)
  | ((with_reducible apply u_isi); (focus (first | exact Or.inl rfl | exact Or.inr (Or.inl rfl) | exact Or.inr (Or.inr (Or.inl rfl)) | exact Or.inr (Or.inr (Or.inr rfl)))); (focus first | assumption | exact Rp.int _ | exact Rp.str _))
  | ((with_reducible apply rd_itL); (focus first | assumption | exact SqL.of (by assumption) | exact SqL.of upd_same))
  | ((with_reducible apply rd_itT); (focus first | assumption | exact SqT.of (by assumption) | exact SqT.of upd_same))
  | (with_reducible apply rd_lc)
  | (with_reducible apply rd_yes)
  | ((with_reducible apply u_pow); (focus (exact ⟨by decide, by decide, by decide⟩)))
  | (with_reducible apply u_mul; focus exact Or.inr cm)
  | (with_reducible apply rd_par3)
  | (with_reducible apply rd_par3_end)
  | ((with_reducible apply rd_aug); exact rfl)
  | (with_reducible apply rd_ipI)
  | (with_reducible apply rd_dnew)
  | (with_reducible apply rd_din)
  | (with_reducible apply rd_dget)
  | (with_reducible apply rd_dput)
  | (with_reducible apply rd_disp1)
  | (with_reducible apply rd_sl)
  | (with_reducible apply rd_part)
  | (with_reducible apply rd_partI)
  | (with_reducible apply rd_nopart)
  | (with_reducible apply iteT)
  | (with_reducible apply iteF))
local macro_rules | `(tactic| walk_at "go") => `(tactic| repeat (walk_at "st"))
local macro_rules | `(tactic| walk_at "sp") => `(tactic| (first | refine rd_split (fun c => ?_) (fun c => ?_) | refine rd_splitN (fun c => ?_) (fun c => ?_) | refine rd_splitB (fun c => ?_) (fun c => ?_)))
local macro_rules | `(tactic| walk_at "nx") => `(tactic| repeat (first | (with_reducible apply iteF) | (with_reducible apply iteT) | (with_reducible apply rd_next)))

section
variable {P : Program} {w : World} {K : PySem.W.Frag} {mg : Str → Option Value} {base : Heap}
/-- a thing of plain data, not deep -/
def spOdd (K : PySem.W.Frag) : Sp := fun vs H Q _ => ∃ (a : Addr), vs = [.ref a] ∧ Src H a ∧ ∀ (H' : Hp) (v : V), SB a H H' → Src H' a → Dt K 60 H' v → Q v H'
theorem use_odd {K : PySem.W.Frag} {a : Addr} {H : Hp} {Q : VK} {E : XK} (h : Src H a) (q : ∀ (H' : Hp) (v : V), SB a H H' → Src H' a → Dt K 60 H' v → Q v H') : spOdd K [.ref a] H Q E := ⟨a, rfl, h, q⟩
abbrev s_law_odd : Stmt := top 51
theorem sc_law_odd : FnScope ["source", "one"] ["source"] (defScope s_law_odd) := ⟨rfl, rfl, rfl, by decide +kernel, rfl, by decide +kernel, by decide +kernel⟩
theorem has_odd (O : OwnF K mg "_law_odd" s_law_odd) (h_law_one : HasF P w K mg base CX0 2 "_law_one" ["source", "things"] (spOne K)) : HasF P w K mg base CX0 3 "_law_odd" ["source"] (spOdd K) := by
  refine has0 O sc_law_odd (fun _ _ _ _ _ _ us hl => match us, hl with | [_], _ => rfl) (fun vs H Q E h => ?_) (fun f cdv A outer s_ H vs Q E hr h => ?_)
  · obtain ⟨a, rfl, _⟩ := h
    rfl
  obtain ⟨a, rfl, hS, q⟩ := h
  refine ⟨_, (pss_cons (ps_set (i := 1) sc_law_odd.nd rfl (by first | exact Or.inl rfl | exact Or.inr rfl) (pe_tup (pa_cons pe_str (pa_cons (pe_tup (pa_cons pe_int pa_nil)) (pa_cons (pe_tup pa_nil) pa_nil))))) (pss_one (ps_ret (pe_callH h_law_one (hr.mono (by first | decide | omega)) (by rfl) pass0 (pa_cons (pv 0) (pa_cons (pe_lst (pa_cons pe_non (pa_cons pe_int (pa_cons pe_str (pa_cons pe_str (pa_cons (pe_tup pa_nil) (pa_cons (pe_tup (pa_cons pe_int pa_nil)) (pa_cons (pe_tup (pa_cons pe_str (pa_cons (pe_tup (pa_cons pe_int pa_nil)) pa_nil))) (pa_cons (pe_tup (pa_cons pe_str (pa_cons (pe_tup (pa_cons pe_int pa_nil)) (pa_cons (pe_tup pa_nil) (pa_cons (pe_tup pa_nil) pa_nil))))) (pa_cons (pe_tup (pa_cons pe_str (pa_cons pe_int (pa_cons (pe_tup pa_nil) pa_nil)))) (pa_cons (pe_tup (pa_cons pe_int (pa_cons (pe_tup pa_nil) (pa_cons (pe_tup pa_nil) pa_nil)))) (pa_cons (pe_tup (pa_cons pe_str (pa_cons (pe_tup (pa_cons pe_int pa_nil)) (pa_cons pe_non pa_nil)))) (pa_cons (pe_tup (pa_cons pe_str (pa_cons pe_str (pa_cons (pe_tup (pa_cons (pv 1) pa_nil)) pa_nil)))) (pa_cons (pe_tup (pa_cons pe_str (pa_cons (pe_tup pa_nil) (pa_cons pe_str pa_nil)))) (pa_cons (pe_tup (pa_cons pe_non (pa_cons (pe_tup pa_nil) (pa_cons (pe_tup pa_nil) pa_nil)))) (pa_cons (pe_tup (pa_cons (pe_tup (pa_cons pe_str pa_nil)) (pa_cons (pe_tup (pa_cons pe_int pa_nil)) (pa_cons (pe_tup pa_nil) pa_nil)))) (pa_cons (pe_tup (pa_cons pe_str (pa_cons (pe_tup pa_nil) (pa_cons (pv 1) pa_nil)))) (pa_cons (pe_tup (pa_cons pe_str (pa_cons (pe_tup pa_nil) (pa_cons (pe_tup (pa_cons pe_int pa_nil)) pa_nil)))) (pa_cons (pe_tup (pa_cons pe_str (pa_cons (pe_tup pa_nil) (pa_cons (pe_tup (pa_cons (pv 1) (pa_cons (pe_tup pa_nil) pa_nil))) pa_nil)))) (pa_cons (pe_tup (pa_cons pe_str (pa_cons (pe_tup pa_nil) (pa_cons (pe_tup (pa_cons (pv 1) (pa_cons pe_non (pa_cons pe_int pa_nil)))) pa_nil)))) pa_nil)))))))))))))))))))) pa_nil)))))), ?_⟩
  refine st0 [some (.ref a), none] rfl ?_
  have l0 : Lay K a H 0 [] H := Lay.start hS
  walk_at "go"
  refine ⟨lk rfl, fun p1 hp1 => ?_⟩
  have pl1 := l0.tup (xs := [.int 1]) hp1 (by simp) (al1 (.inr (by decide +kernel)) al0)
  have pq1 : SqT K (upd H p1 (.tup [.int 1])) p1 [.int 1] := SqT.of upd_same
  generalize upd H p1 (.tup [.int 1]) = pH1 at *
  walk_at "go"
  refine ⟨lk rfl, fun p2 hp2 => ?_⟩
  have pl2 := pl1.tup (xs := []) hp2 (by simp) al0
  generalize upd pH1 p2 (.tup []) = pH2 at *
  walk_at "go"
  refine ⟨lk rfl, fun p3 hp3 => ?_⟩
  have pl3 := pl2.tup (xs := [.str (Str.ofString "row"), .ref p1, .ref p2]) hp3 (by simp) (al1 (.inr (by decide +kernel)) (al1 (.inl (.tail _ (.head _))) (al1 (.inl (.head _)) al0)))
  generalize upd pH2 p3 (.tup [.str (Str.ofString "row"), .ref p1, .ref p2]) = pH3 at *
  walk_at "go"
  refine ⟨lk rfl, fun p4 hp4 => ?_⟩
  have pl4 := pl3.tup (xs := []) hp4 (by simp) al0
  generalize upd pH3 p4 (.tup []) = pH4 at *
  walk_at "go"
  refine ⟨lk rfl, fun p5 hp5 => ?_⟩
  have pl5 := pl4.tup (xs := [.int 7]) hp5 (by simp) (al1 (.inr (by decide +kernel)) al0)
  have pq5 : SqT K (upd pH4 p5 (.tup [.int 7])) p5 [.int 7] := SqT.of upd_same
  generalize upd pH4 p5 (.tup [.int 7]) = pH5 at *
  walk_at "go"
  refine ⟨lk rfl, fun p6 hp6 => ?_⟩
  have pl6 := pl5.tup (xs := [.int 1]) hp6 (by simp) (al1 (.inr (by decide +kernel)) al0)
  have pq6 : SqT K (upd pH5 p6 (.tup [.int 1])) p6 [.int 1] := SqT.of upd_same
  generalize upd pH5 p6 (.tup [.int 1]) = pH6 at *
  walk_at "go"
  refine ⟨lk rfl, fun p7 hp7 => ?_⟩
  have pl7 := pl6.tup (xs := [.str (Str.ofString "row"), .ref p6]) hp7 (by simp) (al1 (.inr (by decide +kernel)) (al1 (.inl (.head _)) al0))
  generalize upd pH6 p7 (.tup [.str (Str.ofString "row"), .ref p6]) = pH7 at *
  walk_at "go"
  refine ⟨lk rfl, fun p8 hp8 => ?_⟩
  have pl8 := pl7.tup (xs := [.int 1]) hp8 (by simp) (al1 (.inr (by decide +kernel)) al0)
  have pq8 : SqT K (upd pH7 p8 (.tup [.int 1])) p8 [.int 1] := SqT.of upd_same
  generalize upd pH7 p8 (.tup [.int 1]) = pH8 at *
  walk_at "go"
  refine ⟨lk rfl, fun p9 hp9 => ?_⟩
  have pl9 := pl8.tup (xs := []) hp9 (by simp) al0
  generalize upd pH8 p9 (.tup []) = pH9 at *
  walk_at "go"
  refine ⟨lk rfl, fun p10 hp10 => ?_⟩
  have pl10 := pl9.tup (xs := []) hp10 (by simp) al0
  generalize upd pH9 p10 (.tup []) = pH10 at *
  walk_at "go"
  refine ⟨lk rfl, fun p11 hp11 => ?_⟩
  have pl11 := pl10.tup (xs := [.str (Str.ofString "row"), .ref p8, .ref p9, .ref p10]) hp11 (by simp) (al1 (.inr (by decide +kernel)) (al1 (.inl (.tail _ (.tail _ (.head _)))) (al1 (.inl (.tail _ (.head _))) (al1 (.inl (.head _)) al0))))
  generalize upd pH10 p11 (.tup [.str (Str.ofString "row"), .ref p8, .ref p9, .ref p10]) = pH11 at *
  walk_at "go"
  refine ⟨lk rfl, fun p12 hp12 => ?_⟩
  have pl12 := pl11.tup (xs := []) hp12 (by simp) al0
  generalize upd pH11 p12 (.tup []) = pH12 at *
  walk_at "go"
  refine ⟨lk rfl, fun p13 hp13 => ?_⟩
  have pl13 := pl12.tup (xs := [.str (Str.ofString "row"), .int 1, .ref p12]) hp13 (by simp) (al1 (.inr (by decide +kernel)) (al1 (.inr (by decide +kernel)) (al1 (.inl (.head _)) al0)))
  generalize upd pH12 p13 (.tup [.str (Str.ofString "row"), .int 1, .ref p12]) = pH13 at *
  walk_at "go"
  refine ⟨lk rfl, fun p14 hp14 => ?_⟩
  have pl14 := pl13.tup (xs := []) hp14 (by simp) al0
  generalize upd pH13 p14 (.tup []) = pH14 at *
  walk_at "go"
  refine ⟨lk rfl, fun p15 hp15 => ?_⟩
  have pl15 := pl14.tup (xs := []) hp15 (by simp) al0
  generalize upd pH14 p15 (.tup []) = pH15 at *
  walk_at "go"
  refine ⟨lk rfl, fun p16 hp16 => ?_⟩
  have pl16 := pl15.tup (xs := [.int 7, .ref p14, .ref p15]) hp16 (by simp) (al1 (.inr (by decide +kernel)) (al1 (.inl (.tail _ (.head _))) (al1 (.inl (.head _)) al0)))
  generalize upd pH15 p16 (.tup [.int 7, .ref p14, .ref p15]) = pH16 at *
  walk_at "go"
  refine ⟨lk rfl, fun p17 hp17 => ?_⟩
  have pl17 := pl16.tup (xs := [.int 1]) hp17 (by simp) (al1 (.inr (by decide +kernel)) al0)
  have pq17 : SqT K (upd pH16 p17 (.tup [.int 1])) p17 [.int 1] := SqT.of upd_same
  generalize upd pH16 p17 (.tup [.int 1]) = pH17 at *
  walk_at "go"
  refine ⟨lk rfl, fun p18 hp18 => ?_⟩
  have pl18 := pl17.tup (xs := [.str (Str.ofString "row"), .ref p17, .non]) hp18 (by simp) (al1 (.inr (by decide +kernel)) (al1 (.inl (.head _)) (al1 (.inr (by decide +kernel)) al0)))
  generalize upd pH17 p18 (.tup [.str (Str.ofString "row"), .ref p17, .non]) = pH18 at *
  walk_at "go"
  refine ⟨lk rfl, fun p19 hp19 => ?_⟩
  have pl19 := pl18.tup (xs := [.ref p3]) hp19 (by simp) (al1 (.inl (.tail _ (.tail _ (.tail _ (.tail _ (.tail _ (.tail _ (.tail _ (.tail _ (.tail _ (.tail _ (.tail _ (.tail _ (.tail _ (.tail _ (.tail _ (.head _))))))))))))))))) al0)
  have pq19 : SqT K (upd pH18 p19 (.tup [.ref p3])) p19 [.ref p3] := SqT.of upd_same
  generalize upd pH18 p19 (.tup [.ref p3]) = pH19 at *
  walk_at "go"
  refine ⟨lk rfl, fun p20 hp20 => ?_⟩
  have pl20 := pl19.tup (xs := [.str (Str.ofString "rev"), .str (Str.ofString ""), .ref p19]) hp20 (by simp) (al1 (.inr (by decide +kernel)) (al1 (.inr (by decide +kernel)) (al1 (.inl (.head _)) al0)))
  generalize upd pH19 p20 (.tup [.str (Str.ofString "rev"), .str (Str.ofString ""), .ref p19]) = pH20 at *
  walk_at "go"
  refine ⟨lk rfl, fun p21 hp21 => ?_⟩
  have pl21 := pl20.tup (xs := []) hp21 (by simp) al0
  generalize upd pH20 p21 (.tup []) = pH21 at *
  walk_at "go"
  refine ⟨lk rfl, fun p22 hp22 => ?_⟩
  have pl22 := pl21.tup (xs := [.str (Str.ofString "rev"), .ref p21, .str (Str.ofString "x")]) hp22 (by simp) (al1 (.inr (by decide +kernel)) (al1 (.inl (.head _)) (al1 (.inr (by decide +kernel)) al0)))
  generalize upd pH21 p22 (.tup [.str (Str.ofString "rev"), .ref p21, .str (Str.ofString "x")]) = pH22 at *
  walk_at "go"
  refine ⟨lk rfl, fun p23 hp23 => ?_⟩
  have pl23 := pl22.tup (xs := []) hp23 (by simp) al0
  generalize upd pH22 p23 (.tup []) = pH23 at *
  walk_at "go"
  refine ⟨lk rfl, fun p24 hp24 => ?_⟩
  have pl24 := pl23.tup (xs := []) hp24 (by simp) al0
  generalize upd pH23 p24 (.tup []) = pH24 at *
  walk_at "go"
  refine ⟨lk rfl, fun p25 hp25 => ?_⟩
  have pl25 := pl24.tup (xs := [.non, .ref p23, .ref p24]) hp25 (by simp) (al1 (.inr (by decide +kernel)) (al1 (.inl (.tail _ (.head _))) (al1 (.inl (.head _)) al0)))
  generalize upd pH24 p25 (.tup [.non, .ref p23, .ref p24]) = pH25 at *
  walk_at "go"
  refine ⟨lk rfl, fun p26 hp26 => ?_⟩
  have pl26 := pl25.tup (xs := [.str (Str.ofString "row")]) hp26 (by simp) (al1 (.inr (by decide +kernel)) al0)
  have pq26 : SqT K (upd pH25 p26 (.tup [.str (Str.ofString "row")])) p26 [.str (Str.ofString "row")] := SqT.of upd_same
  generalize upd pH25 p26 (.tup [.str (Str.ofString "row")]) = pH26 at *
  walk_at "go"
  refine ⟨lk rfl, fun p27 hp27 => ?_⟩
  have pl27 := pl26.tup (xs := [.int 1]) hp27 (by simp) (al1 (.inr (by decide +kernel)) al0)
  have pq27 : SqT K (upd pH26 p27 (.tup [.int 1])) p27 [.int 1] := SqT.of upd_same
  generalize upd pH26 p27 (.tup [.int 1]) = pH27 at *
  walk_at "go"
  refine ⟨lk rfl, fun p28 hp28 => ?_⟩
  have pl28 := pl27.tup (xs := []) hp28 (by simp) al0
  generalize upd pH27 p28 (.tup []) = pH28 at *
  walk_at "go"
  refine ⟨lk rfl, fun p29 hp29 => ?_⟩
  have pl29 := pl28.tup (xs := [.ref p26, .ref p27, .ref p28]) hp29 (by simp) (al1 (.inl (.tail _ (.tail _ (.head _)))) (al1 (.inl (.tail _ (.head _))) (al1 (.inl (.head _)) al0)))
  generalize upd pH28 p29 (.tup [.ref p26, .ref p27, .ref p28]) = pH29 at *
  walk_at "go"
  refine ⟨lk rfl, fun p30 hp30 => ?_⟩
  have pl30 := pl29.tup (xs := []) hp30 (by simp) al0
  generalize upd pH29 p30 (.tup []) = pH30 at *
  walk_at "go"
  refine ⟨lk rfl, fun p31 hp31 => ?_⟩
  have pl31 := pl30.tup (xs := [.str (Str.ofString "cat"), .ref p30, .ref p3]) hp31 (by simp) (al1 (.inr (by decide +kernel)) (al1 (.inl (.head _)) (al1 (.inl (.tail _ (.tail _ (.tail _ (.tail _ (.tail _ (.tail _ (.tail _ (.tail _ (.tail _ (.tail _ (.tail _ (.tail _ (.tail _ (.tail _ (.tail _ (.tail _ (.tail _ (.tail _ (.tail _ (.tail _ (.tail _ (.tail _ (.tail _ (.tail _ (.tail _ (.tail _ (.tail _ (.head _))))))))))))))))))))))))))))) al0)))
  generalize upd pH30 p31 (.tup [.str (Str.ofString "cat"), .ref p30, .ref p3]) = pH31 at *
  walk_at "go"
  refine ⟨lk rfl, fun p32 hp32 => ?_⟩
  have pl32 := pl31.tup (xs := []) hp32 (by simp) al0
  generalize upd pH31 p32 (.tup []) = pH32 at *
  walk_at "go"
  refine ⟨lk rfl, fun p33 hp33 => ?_⟩
  have pl33 := pl32.tup (xs := [.int 7]) hp33 (by simp) (al1 (.inr (by decide +kernel)) al0)
  have pq33 : SqT K (upd pH32 p33 (.tup [.int 7])) p33 [.int 7] := SqT.of upd_same
  generalize upd pH32 p33 (.tup [.int 7]) = pH33 at *
  walk_at "go"
  refine ⟨lk rfl, fun p34 hp34 => ?_⟩
  have pl34 := pl33.tup (xs := [.str (Str.ofString "rev"), .ref p32, .ref p33]) hp34 (by simp) (al1 (.inr (by decide +kernel)) (al1 (.inl (.tail _ (.head _))) (al1 (.inl (.head _)) al0)))
  generalize upd pH33 p34 (.tup [.str (Str.ofString "rev"), .ref p32, .ref p33]) = pH34 at *
  walk_at "go"
  refine ⟨lk rfl, fun p35 hp35 => ?_⟩
  have pl35 := pl34.tup (xs := []) hp35 (by simp) al0
  generalize upd pH34 p35 (.tup []) = pH35 at *
  walk_at "go"
  refine ⟨lk rfl, fun p36 hp36 => ?_⟩
  have pl36 := pl35.tup (xs := []) hp36 (by simp) al0
  generalize upd pH35 p36 (.tup []) = pH36 at *
  walk_at "go"
  refine ⟨lk rfl, fun p37 hp37 => ?_⟩
  have pl37 := pl36.tup (xs := [.ref p3, .ref p36]) hp37 (by simp) (al1 (.inl (.tail _ (.tail _ (.tail _ (.tail _ (.tail _ (.tail _ (.tail _ (.tail _ (.tail _ (.tail _ (.tail _ (.tail _ (.tail _ (.tail _ (.tail _ (.tail _ (.tail _ (.tail _ (.tail _ (.tail _ (.tail _ (.tail _ (.tail _ (.tail _ (.tail _ (.tail _ (.tail _ (.tail _ (.tail _ (.tail _ (.tail _ (.tail _ (.tail _ (.head _))))))))))))))))))))))))))))))))))) (al1 (.inl (.head _)) al0))
  generalize upd pH36 p37 (.tup [.ref p3, .ref p36]) = pH37 at *
  walk_at "go"
  refine ⟨lk rfl, fun p38 hp38 => ?_⟩
  have pl38 := pl37.tup (xs := [.str (Str.ofString "add"), .ref p35, .ref p37]) hp38 (by simp) (al1 (.inr (by decide +kernel)) (al1 (.inl (.tail _ (.tail _ (.head _)))) (al1 (.inl (.head _)) al0)))
  generalize upd pH37 p38 (.tup [.str (Str.ofString "add"), .ref p35, .ref p37]) = pH38 at *
  walk_at "go"
  refine ⟨lk rfl, fun p39 hp39 => ?_⟩
  have pl39 := pl38.tup (xs := []) hp39 (by simp) al0
  generalize upd pH38 p39 (.tup []) = pH39 at *
  walk_at "go"
  refine ⟨lk rfl, fun p40 hp40 => ?_⟩
  have pl40 := pl39.tup (xs := [.ref p3, .non, .int 7]) hp40 (by simp) (al1 (.inl (.tail _ (.tail _ (.tail _ (.tail _ (.tail _ (.tail _ (.tail _ (.tail _ (.tail _ (.tail _ (.tail _ (.tail _ (.tail _ (.tail _ (.tail _ (.tail _ (.tail _ (.tail _ (.tail _ (.tail _ (.tail _ (.tail _ (.tail _ (.tail _ (.tail _ (.tail _ (.tail _ (.tail _ (.tail _ (.tail _ (.tail _ (.tail _ (.tail _ (.tail _ (.tail _ (.tail _ (.head _)))))))))))))))))))))))))))))))))))))) (al1 (.inr (by decide +kernel)) (al1 (.inr (by decide +kernel)) al0)))
  generalize upd pH39 p40 (.tup [.ref p3, .non, .int 7]) = pH40 at *
  walk_at "go"
  refine ⟨lk rfl, fun p41 hp41 => ?_⟩
  have pl41 := pl40.tup (xs := [.str (Str.ofString "cat"), .ref p39, .ref p40]) hp41 (by simp) (al1 (.inr (by decide +kernel)) (al1 (.inl (.tail _ (.head _))) (al1 (.inl (.head _)) al0)))
  generalize upd pH40 p41 (.tup [.str (Str.ofString "cat"), .ref p39, .ref p40]) = pH41 at *
  walk_at "go"
  refine ⟨lk rfl, fun p hp => ?_⟩
  walk_at "go"
  refine use_one (xs := [.non, .int 7, .str (Str.ofString ""), .str (Str.ofString "row"), .ref p4, .ref p5, .ref p7, .ref p11, .ref p13, .ref p16, .ref p18, .ref p20, .ref p22, .ref p25, .ref p29, .ref p31, .ref p34, .ref p38, .ref p41]) (pl41.src.new hp) (SqL.of upd_same) (pl41.src.ne hp) (by simp) (by simp) fun H2 v s2 hS2 hv => ?_
  have d := (pl41.lst (xs := [.non, .int 7, .str (Str.ofString ""), .str (Str.ofString "row"), .ref p4, .ref p5, .ref p7, .ref p11, .ref p13, .ref p16, .ref p18, .ref p20, .ref p22, .ref p25, .ref p29, .ref p31, .ref p34, .ref p38, .ref p41]) hp).sbx s2 hS2
  exact q H2 v d.sb hS2 ((d.any (al1 (.inr (by decide +kernel)) (al1 (.inr (by decide +kernel)) (al1 (.inr (by decide +kernel)) (al1 (.inr (by decide +kernel)) (al1 (.inl (.tail _ (.tail _ (.tail _ (.tail _ (.tail _ (.tail _ (.tail _ (.tail _ (.tail _ (.tail _ (.tail _ (.tail _ (.tail _ (.tail _ (.tail _ (.tail _ (.tail _ (.tail _ (.tail _ (.tail _ (.tail _ (.tail _ (.tail _ (.tail _ (.tail _ (.tail _ (.tail _ (.tail _ (.tail _ (.tail _ (.tail _ (.tail _ (.tail _ (.tail _ (.tail _ (.tail _ (.tail _ (.head _))))))))))))))))))))))))))))))))))))))) (al1 (.inl (.tail _ (.tail _ (.tail _ (.tail _ (.tail _ (.tail _ (.tail _ (.tail _ (.tail _ (.tail _ (.tail _ (.tail _ (.tail _ (.tail _ (.tail _ (.tail _ (.tail _ (.tail _ (.tail _ (.tail _ (.tail _ (.tail _ (.tail _ (.tail _ (.tail _ (.tail _ (.tail _ (.tail _ (.tail _ (.tail _ (.tail _ (.tail _ (.tail _ (.tail _ (.tail _ (.tail _ (.head _)))))))))))))))))))))))))))))))))))))) (al1 (.inl (.tail _ (.tail _ (.tail _ (.tail _ (.tail _ (.tail _ (.tail _ (.tail _ (.tail _ (.tail _ (.tail _ (.tail _ (.tail _ (.tail _ (.tail _ (.tail _ (.tail _ (.tail _ (.tail _ (.tail _ (.tail _ (.tail _ (.tail _ (.tail _ (.tail _ (.tail _ (.tail _ (.tail _ (.tail _ (.tail _ (.tail _ (.tail _ (.tail _ (.tail _ (.head _)))))))))))))))))))))))))))))))))))) (al1 (.inl (.tail _ (.tail _ (.tail _ (.tail _ (.tail _ (.tail _ (.tail _ (.tail _ (.tail _ (.tail _ (.tail _ (.tail _ (.tail _ (.tail _ (.tail _ (.tail _ (.tail _ (.tail _ (.tail _ (.tail _ (.tail _ (.tail _ (.tail _ (.tail _ (.tail _ (.tail _ (.tail _ (.tail _ (.tail _ (.tail _ (.head _)))))))))))))))))))))))))))))))) (al1 (.inl (.tail _ (.tail _ (.tail _ (.tail _ (.tail _ (.tail _ (.tail _ (.tail _ (.tail _ (.tail _ (.tail _ (.tail _ (.tail _ (.tail _ (.tail _ (.tail _ (.tail _ (.tail _ (.tail _ (.tail _ (.tail _ (.tail _ (.tail _ (.tail _ (.tail _ (.tail _ (.tail _ (.tail _ (.head _)))))))))))))))))))))))))))))) (al1 (.inl (.tail _ (.tail _ (.tail _ (.tail _ (.tail _ (.tail _ (.tail _ (.tail _ (.tail _ (.tail _ (.tail _ (.tail _ (.tail _ (.tail _ (.tail _ (.tail _ (.tail _ (.tail _ (.tail _ (.tail _ (.tail _ (.tail _ (.tail _ (.tail _ (.tail _ (.head _))))))))))))))))))))))))))) (al1 (.inl (.tail _ (.tail _ (.tail _ (.tail _ (.tail _ (.tail _ (.tail _ (.tail _ (.tail _ (.tail _ (.tail _ (.tail _ (.tail _ (.tail _ (.tail _ (.tail _ (.tail _ (.tail _ (.tail _ (.tail _ (.tail _ (.tail _ (.tail _ (.head _))))))))))))))))))))))))) (al1 (.inl (.tail _ (.tail _ (.tail _ (.tail _ (.tail _ (.tail _ (.tail _ (.tail _ (.tail _ (.tail _ (.tail _ (.tail _ (.tail _ (.tail _ (.tail _ (.tail _ (.tail _ (.tail _ (.tail _ (.tail _ (.tail _ (.head _))))))))))))))))))))))) (al1 (.inl (.tail _ (.tail _ (.tail _ (.tail _ (.tail _ (.tail _ (.tail _ (.tail _ (.tail _ (.tail _ (.tail _ (.tail _ (.tail _ (.tail _ (.tail _ (.tail _ (.tail _ (.tail _ (.tail _ (.head _))))))))))))))))))))) (al1 (.inl (.tail _ (.tail _ (.tail _ (.tail _ (.tail _ (.tail _ (.tail _ (.tail _ (.tail _ (.tail _ (.tail _ (.tail _ (.tail _ (.tail _ (.tail _ (.tail _ (.head _)))))))))))))))))) (al1 (.inl (.tail _ (.tail _ (.tail _ (.tail _ (.tail _ (.tail _ (.tail _ (.tail _ (.tail _ (.tail _ (.tail _ (.tail _ (.head _)))))))))))))) (al1 (.inl (.tail _ (.tail _ (.tail _ (.tail _ (.tail _ (.tail _ (.tail _ (.tail _ (.tail _ (.tail _ (.head _)))))))))))) (al1 (.inl (.tail _ (.tail _ (.tail _ (.tail _ (.tail _ (.tail _ (.tail _ (.head _))))))))) (al1 (.inl (.tail _ (.tail _ (.tail _ (.head _))))) (al1 (.inl (.head _)) al0))))))))))))))))))) v hv).le (by decide))
end
end Mine

/-! ### Q4 -/
set_option maxHeartbeats 1000000
namespace Mine
open PySem PySem.Spec L2
local macro_rules | `(tactic| walk_at "st") => `(tactic| first
  | ((with_reducible apply rd_var); exact rfl)
  | (with_reducible apply rd_c)
  | (with_reducible apply rd_seq)
  | (with_reducible apply rd_asg)
  | (with_reducible apply rd_gname)
  | (with_reducible apply rd_op)
  | (with_reducible apply rd_cb)
  | (with_reducible apply rd_cons)
  | (with_reducible apply rd_nil)
  | (with_reducible apply rd_if)
  | (with_reducible apply rd_test)
  | (with_reducible apply rd_bl)
  | (with_reducible apply rd_retE)
  | (with_reducible apply rd_ret)
  | (with_reducible apply rd_call)
  | (with_reducible apply rd_tup)
  | (with_reducible apply rd_lst)
  | (with_reducible apply rd_drop)
  | (with_reducible apply rd_next)
  | (with_reducible apply rd_ife)
  | (with_reducible apply rd_gsub)
  | (with_reducible apply rd_par)
  | (with_reducible apply rd_par_end)
  | (with_reducible apply rd_un)
  | (with_reducible apply rd_and)
  | (with_reducible apply rd_or)
  | (with_reducible apply rd_not)
  | (with_reducible apply rd_andV)
  | (with_reducible apply rd_orV)
  | (with_reducible apply rd_notV)
  | (with_reducible apply rd_chain)
  | (with_reducible apply rd_tB)
  | (with_reducible apply rd_brk)
  | (with_reducible apply rd_ct)
  | (with_reducible apply u_add)
  | (with_reducible apply u_sub)
  | (with_reducible apply u_lt)
  | (with_reducible apply u_le)
  | (with_reducible apply u_gt)
  | (with_reducible apply u_ge)
  | (with_reducible apply u_eqI)
  | (with_reducible apply u_eqS)
  | (with_reducible apply u_neI)
  | (with_reducible apply u_int)
  | (with_reducible apply u_intB)
  | (with_reducible apply u_max)
  | (with_reducible apply u_min)
  | (with_reducible apply u_neg)
  | ((with_reducible apply u_mod); focus first | assumption | decide | omega)
  | ((with_reducible apply u_div); focus first | decide | omega | (constructor <;> first | assumption | omega))
  | ((with_reducible apply u_mul); focus first | exact Or.inl (by omega) | exact Or.inr (by omega) | exact Or.inl (by decide) | exact Or.inr (by decide))
  | ((with_reducible apply u_ixL); (focus (first | assumption | exact SqL.of (by assumption) | exact SqL.of upd_same)); exact rfl)
  | ((with_reducible apply u_lenL); focus (first | assumption | exact SqL.of (by assumption) | exact SqL.of upd_same))
  | ((with_reducible apply u_lenT); focus (first | assumption | exact SqT.of (by assumption) | exact SqT.of upd_same))
  | ((with_reducible apply u_setL); (focus (first | assumption | exact upd_same)); exact rfl)
  | (with_reducible apply rd_chain3)
  | (with_reducible apply rd_tru)
  | (with_reducible apply rd_truB)
  | ((with_reducible apply rd_truL); focus (first | assumption | exact SqL.of (by assumption) | exact SqL.of upd_same))
  | (with_reducible apply rd_bm)
  | (with_reducible apply rd_bm0)
  | ((with_reducible apply rd_tyL); focus (first | exact SqL.of (by assumption) | exact SqL.of upd_same))
  | (with_reducible apply u_min3)
  | (with_reducible apply rd_rev)
  | (with_reducible apply rd_iList)
  | (with_reducible apply rd_iTup)
  | (with_reducible apply rd_for)
  | (with_reducible apply rd_rng1)
  | (with_reducible apply rd_rng2)
  | ((with_reducible apply rd_rng1e); (focus omega); (focus omega))
  | ((with_reducible apply rd_rng2e); (focus omega))
  | (with_reducible apply rd_gcons)
  | (with_reducible apply rd_gnil)
  | (with_reducible apply rd_retN)
  | (with_reducible apply g_eqI)
  | (with_reducible apply g_eqS)
  | (with_reducible apply g_neI)
  | (with_reducible apply g_neS)
  | (with_reducible apply g_neB)
  | (with_reducible apply rd_xf)
  | (with_reducible apply rd_raiseE)
  | (with_reducible apply rd_callS)
  | (with_reducible apply u_inD)
  | (with_reducible apply u_notInD)
  | (with_reducible apply u_inS)
  | (with_reducible apply u_notInS)
  | (with_reducible apply rd_iSeq)
  | ((with_reducible apply rd_seqL); (focus first | assumption | exact SqL.of (by assumption) | exact SqL.of upd_same))
  | ((with_reducible apply rd_seqT); (focus first | assumption | exact SqT.of (by assumption) | exact SqT.of upd_same))
  | (with_reducible apply rd_istr)
  | (with_reducible apply rd_istrE)
  | ((with_reducible apply u_isi); (focus (first | exact Or.inl rfl | exact Or.inr (Or.inl rfl) | exact Or.inr (Or.inr (Or.inl rfl)) | exact Or.inr (Or.inr (Or.inr rfl)))); (focus first | assumption | exact Rp.int _ | exact Rp.str _))
  | ((with_reducible apply rd_itL); (focus first | assumption | exact SqL.of (by assumption) | exact SqL.of upd_same))
  | ((with_reducible apply rd_itT); (focus first | assumption | exact SqT.of (by assumption) | exact SqT.of upd_same))
  | (with_reducible apply rd_lc)
  | (with_reducible apply rd_yes)
  | ((with_reducible apply u_pow); (focus (exact ⟨by decide, by decide, by decide⟩)))
  | (with_reducible apply u_mul; focus exact Or.inr cm)
  | (with_reducible apply rd_par3)
  | (with_reducible apply rd_par3_end)
  | ((with_reducible apply rd_aug); exact rfl)
  | (with_reducible apply rd_ipI)
  | (with_reducible apply rd_dnew)
  | (with_reducible apply rd_din)
  | (with_reducible apply rd_dget)
  | (with_reducible apply rd_dput)
  | (with_reducible apply rd_disp1)
  | (with_reducible apply rd_sl)
  | (with_reducible apply rd_part)
  | (with_reducible apply rd_partI)
  | (with_reducible apply rd_nopart)
  | (with_reducible apply iteT)
  | (with_reducible apply iteF))
local macro_rules | `(tactic| walk_at "go") => `(tactic| repeat (walk_at "st"))
local macro_rules | `(tactic| walk_at "sp") => `(tactic| (first | refine rd_split (fun c => ?_) (fun c => ?_) | refine rd_splitN (fun c => ?_) (fun c => ?_) | refine rd_splitB (fun c => ?_) (fun c => ?_)))
local macro_rules | `(tactic| walk_at "nx") => `(tactic| repeat (first | (with_reducible apply iteF) | (with_reducible apply iteT) | (with_reducible apply rd_next)))

section
variable {P : Program} {w : World} {K : PySem.W.Frag} {mg : Str → Option Value} {base : Heap}
theorem repM {L xs : List V} {n : Nat} (h : ∀ x ∈ xs, x ∈ L ∨ atomB x = true) : ∀ x ∈ (List.replicate n xs).flatten, x ∈ L ∨ atomB x = true := fun x hx => by
  obtain ⟨l, hl, hx⟩ := List.mem_flatten.mp hx
  rw [List.eq_of_mem_replicate hl] at hx
  exact h x hx
/-- a joint laid wrong, or right -/
def spMis (K : PySem.W.Frag) : Sp := fun vs H Q _ => ∃ (a : Addr) (v : V) (j : Jn), vs = [.ref a, v] ∧ Src H a ∧ Rp K H v j.py ∧ j.ok ∧ j.cnt ≤ 40 ∧ ∀ (H' : Hp) (u : V), SB a H H' → Src H' a → Dt K 90 H' u → Q u H'
theorem use_mis {K : PySem.W.Frag} {a : Addr} {v : V} {j : Jn} {H : Hp} {Q : VK} {E : XK} (h : Src H a) (r : Rp K H v j.py) (h1 : j.ok) (h2 : j.cnt ≤ 40) (q : ∀ (H' : Hp) (u : V), SB a H H' → Src H' a → Dt K 90 H' u → Q u H') : spMis K [.ref a, v] H Q E := ⟨a, v, j, rfl, h, r, h1, h2, q⟩
abbrev s_law_misjoined : Stmt := top 52
theorem sc_law_misjoined : FnScope ["source", "joint", "row", "parts", "told", "op", "way"] ["source", "joint"] (defScope s_law_misjoined) := ⟨rfl, rfl, rfl, by decide +kernel, rfl, by decide +kernel, by decide +kernel⟩
theorem has_misjoined (O : OwnF K mg "_law_misjoined" s_law_misjoined) (h_law_take : HasF P w K mg base CX0 1 "_law_take" ["source", "top"] spTake) (h_law_one : HasF P w K mg base CX0 2 "_law_one" ["source", "things"] (spOne K)) : HasF P w K mg base CX0 3 "_law_misjoined" ["source", "joint"] (spMis K) := by
  refine has0 O sc_law_misjoined (fun _ _ _ _ _ _ us hl => match us, hl with | [_, _], _ => rfl) (fun vs H Q E h => ?_) (fun f cdv A outer s_ H vs Q E hr h => ?_)
  · obtain ⟨a, v, j, rfl, _⟩ := h
    rfl
  obtain ⟨a, v, j, rfl, hS, r, hok, h40, q⟩ := h
  obtain ⟨op, td, parts⟩ := j
  obtain ⟨pj, t, qa, tv, pvs, rfl, hsj, hst, hRt, hsq, hRq⟩ := r.jn
  have h' := hok
  simp only [Jn.ok] at h'
  obtain ⟨hop, htl, htf, hpl, hoks⟩ := h'
  have hc40 : 1 + Jn.cnts parts ≤ 40 := by simpa only [Jn.cnt] using h40
  have lp : pvs.length = parts.length := by rw [hRq.length, pys_length]
  have hdp : PyData.depthAll (Jn.pys parts) ≤ 78 := Nat.le_trans (Jn.deeps parts hoks) (by omega)
  have dts : ∀ x ∈ pvs, Dt K 78 H x := Dt.parts hRq (Jn.dats parts hoks) hdp
  have dT : Dt K 80 H (.ref t) := (Dt.tup (n := 0) (Dt.parts hRt (flat_dats htf) (by rw [flat_depth htf] <;> exact Nat.le_refl _)) (by rw [hRt.length]; omega) hst).le (by decide)
  have dQ : Dt K 80 H (.ref qa) := (Dt.tup (n := 78) dts (by omega) hsq).le (by decide)
  refine ⟨_, (pss_cons (ps_par (i := 2) (j := 3) (by rfl) sc_law_misjoined.nd rfl rfl (by decide) rfl rfl (pa_cons (pe_tup (pa_cons pe_str (pa_cons (pe_tup (pa_cons pe_int (pa_cons pe_int pa_nil))) (pa_cons (pe_tup pa_nil) pa_nil)))) (pa_cons (pe_ix (kIx K) (pv 1) pe_int (fun _ _ => rfl)) pa_nil)) (by rfl)) (pss_cons (ps_set (i := 4) sc_law_misjoined.nd rfl (by first | exact Or.inl rfl | exact Or.inr rfl) (pe_callH h_law_one (hr.mono (by first | decide | omega)) (by rfl) pass0 (pa_cons (pv 0) (pa_cons (pe_lst (pa_cons (pe_tup pa_nil) (pa_cons (pe_tup (pa_cons pe_int pa_nil)) (pa_cons (pe_tup (pa_cons (pe_un un_neg pe_int) pa_nil)) (pa_cons (pe_tup (pa_cons pe_int (pa_cons pe_int pa_nil))) (pa_cons (pe_tup (pa_cons pe_int (pa_cons pe_int pa_nil))) (pa_cons (pe_tup (pa_cons pe_int (pa_cons pe_int pa_nil))) (pa_cons (pe_tup (pa_cons pe_int (pa_cons pe_int pa_nil))) (pa_cons (pe_tup (pa_cons pe_int pa_nil)) (pa_cons (pe_tup (pa_cons pe_int pa_nil)) (pa_cons (pe_tup (pa_cons pe_int pa_nil)) (pa_cons (pe_tup (pa_cons pe_int pa_nil)) (pa_cons (pe_tup (pa_cons pe_int (pa_cons pe_int pa_nil))) (pa_cons (pe_tup (pa_cons pe_int pa_nil)) (pa_cons (pe_tup (pa_cons pe_int pa_nil)) (pa_cons (pe_tup (pa_cons pe_str (pa_cons pe_int pa_nil))) (pa_cons (pe_tup (pa_cons pe_str (pa_cons pe_int pa_nil))) (pa_cons (pe_tup (pa_cons pe_str (pa_cons pe_int pa_nil))) (pa_cons (pe_tup (pa_cons pe_str (pa_cons pe_int pa_nil))) (pa_cons (pe_tup (pa_cons pe_str (pa_cons pe_int pa_nil))) (pa_cons (pe_tup (pa_cons pe_str (pa_cons pe_int pa_nil))) (pa_cons (pe_tup (pa_cons pe_str (pa_cons pe_int pa_nil))) (pa_cons (pe_tup (pa_cons pe_int (pa_cons pe_str pa_nil))) (pa_cons (pe_tup (pa_cons pe_str pa_nil)) (pa_cons (pe_tup (pa_cons pe_str (pa_cons pe_int (pa_cons pe_int pa_nil)))) (pa_cons (pe_tup (pa_cons pe_non pa_nil)) (pa_cons (pe_tup (pa_cons (pe_tup pa_nil) pa_nil)) (pa_cons (pe_op (kMul K) (pe_tup (pa_cons pe_int pa_nil)) pe_int) (pa_cons (pe_op (kMul K) (pe_tup (pa_cons pe_int pa_nil)) pe_int) (pa_cons (pe_tup (pa_cons (pe_op powU pe_int pe_int) pa_nil)) pa_nil)))))))))))))))))))))))))))))) pa_nil)))) (pss_cons (ps_set (i := 5) sc_law_misjoined.nd rfl (by first | exact Or.inl rfl | exact Or.inr rfl) (pe_callH h_law_one (hr.mono (by first | decide | omega)) (by rfl) pass0 (pa_cons (pv 0) (pa_cons (pe_lst (pa_cons pe_str (pa_cons pe_str (pa_cons pe_str (pa_cons pe_str (pa_cons pe_str (pa_cons pe_str (pa_cons pe_str (pa_cons pe_str (pa_cons pe_str (pa_cons pe_str (pa_cons pe_str (pa_cons pe_str (pa_cons pe_str (pa_cons pe_str (pa_cons pe_str (pa_cons pe_str (pa_cons pe_str (pa_cons pe_str (pa_cons pe_str (pa_cons pe_str pa_nil))))))))))))))))))))) pa_nil)))) (pss_cons (ps_set (i := 6) sc_law_misjoined.nd rfl (by first | exact Or.inl rfl | exact Or.inr rfl) (pe_callH h_law_take (hr.mono (by first | decide | omega)) (by rfl) pass0 (pa_cons (pv 0) (pa_cons pe_int pa_nil)))) (pss_cons (ps_if (pt_cmpR (kEqG K (hU hr)) (pv 6) pe_int (nomark _)) (pss_one (ps_ret (pe_tup (pa_cons (pe_ix (kIx K) (pv 1) pe_int (fun _ _ => rfl)) (pa_cons (pv 4) (pa_cons (pv 3) pa_nil)))))) pss_nil) (pss_cons (ps_if (pt_cmpR (kEqG K (hU hr)) (pv 6) pe_int (nomark _)) (pss_one (ps_ret (pe_tup (pa_cons (pv 5) (pa_cons (pe_ix (kIx K) (pv 1) pe_int (fun _ _ => rfl)) (pa_cons (pv 3) pa_nil)))))) pss_nil) (pss_cons (ps_if (pt_cmpR (kEqG K (hU hr)) (pv 6) pe_int (nomark _)) (pss_one (ps_ret (pe_tup (pa_cons (pe_ix (kIx K) (pv 1) pe_int (fun _ _ => rfl)) (pa_cons (pe_ix (kIx K) (pv 1) pe_int (fun _ _ => rfl)) (pa_cons (pe_callH h_law_one (hr.mono (by first | decide | omega)) (by rfl) pass0 (pa_cons (pv 0) (pa_cons (pe_lst (pa_cons (pe_slice (kSl K) (pv 3) (po_some pe_int) po_none) (pa_cons (pe_op (kAdd K) (pv 3) (pe_tup (pa_cons (pv 2) pa_nil))) (pa_cons (pe_op (kAdd K) (pv 3) (pe_op (kMul K) (pe_tup (pa_cons (pv 2) pa_nil)) pe_int)) (pa_cons (pe_tup pa_nil) pa_nil))))) pa_nil))) pa_nil)))))) pss_nil) (pss_one (ps_ret (pe_tup (pa_cons (pv 5) (pa_cons (pv 4) (pa_cons (pe_callH h_law_one (hr.mono (by first | decide | omega)) (by rfl) pass0 (pa_cons (pv 0) (pa_cons (pe_lst (pa_cons (pv 3) (pa_cons (pe_tup pa_nil) (pa_cons (pe_tup (pa_cons (pv 2) pa_nil)) (pa_cons (pe_tup (pa_cons (pv 2) (pa_cons (pv 2) pa_nil))) (pa_cons (pe_op (kMul K) (pe_tup (pa_cons (pv 2) pa_nil)) pe_int) pa_nil)))))) pa_nil))) pa_nil))))))))))))), ?_⟩
  refine st0 [some (.ref a), some (.ref pj), none, none, none, none, none] rfl ?_
  have l0 : Lay K a H 0 [] H := Lay.start hS
  walk_at "go"
  refine ⟨lk rfl, fun p1 hp1 => ?_⟩
  have pl1 := l0.tup (xs := [.int 1, .int 2]) hp1 (by simp) (al1 (.inr (by decide +kernel)) (al1 (.inr (by decide +kernel)) al0))
  generalize upd H p1 (.tup [.int 1, .int 2]) = pH1 at *
  walk_at "go"
  refine ⟨lk rfl, fun p2 hp2 => ?_⟩
  have pl2 := pl1.tup (xs := []) hp2 (by simp) al0
  generalize upd pH1 p2 (.tup []) = pH2 at *
  walk_at "go"
  refine ⟨lk rfl, fun p3 hp3 => ?_⟩
  have pl3 := pl2.tup (xs := [.str (Str.ofString "row"), .ref p1, .ref p2]) hp3 (by simp) (al1 (.inr (by decide +kernel)) (al1 (.inl (.tail _ (.head _))) (al1 (.inl (.head _)) al0)))
  generalize upd pH2 p3 (.tup [.str (Str.ofString "row"), .ref p1, .ref p2]) = pH3 at *
  walk_at "go"
  have xe1 := pl3.ext hS
  refine u_ixT (xe1 _ _ hsj) rfl ?_
  walk_at "go"
  refine ⟨lk rfl, fun p4 hp4 => ?_⟩
  have pl4 := pl3.tup (xs := []) hp4 (by simp) al0
  generalize upd pH3 p4 (.tup []) = pH4 at *
  walk_at "go"
  refine ⟨lk rfl, fun p5 hp5 => ?_⟩
  have pl5 := pl4.tup (xs := [.int 0]) hp5 (by simp) (al1 (.inr (by decide +kernel)) al0)
  have pq5 : SqT K (upd pH4 p5 (.tup [.int 0])) p5 [.int 0] := SqT.of upd_same
  generalize upd pH4 p5 (.tup [.int 0]) = pH5 at *
  walk_at "go"
  refine ⟨lk rfl, fun p6 hp6 => ?_⟩
  have pl6 := pl5.tup (xs := [.int (-1)]) hp6 (by simp) (al1 (.inr (by decide +kernel)) al0)
  have pq6 : SqT K (upd pH5 p6 (.tup [.int (-1)])) p6 [.int (-1)] := SqT.of upd_same
  generalize upd pH5 p6 (.tup [.int (-1)]) = pH6 at *
  walk_at "go"
  refine ⟨lk rfl, fun p7 hp7 => ?_⟩
  have pl7 := pl6.tup (xs := [.int 1, .int 1]) hp7 (by simp) (al1 (.inr (by decide +kernel)) (al1 (.inr (by decide +kernel)) al0))
  generalize upd pH6 p7 (.tup [.int 1, .int 1]) = pH7 at *
  walk_at "go"
  refine ⟨lk rfl, fun p8 hp8 => ?_⟩
  have pl8 := pl7.tup (xs := [.int 64, .int 65]) hp8 (by simp) (al1 (.inr (by decide +kernel)) (al1 (.inr (by decide +kernel)) al0))
  generalize upd pH7 p8 (.tup [.int 64, .int 65]) = pH8 at *
  walk_at "go"
  refine ⟨lk rfl, fun p9 hp9 => ?_⟩
  have pl9 := pl8.tup (xs := [.int 0, .int 64]) hp9 (by simp) (al1 (.inr (by decide +kernel)) (al1 (.inr (by decide +kernel)) al0))
  generalize upd pH8 p9 (.tup [.int 0, .int 64]) = pH9 at *
  walk_at "go"
  refine ⟨lk rfl, fun p10 hp10 => ?_⟩
  have pl10 := pl9.tup (xs := [.int 63, .int 64]) hp10 (by simp) (al1 (.inr (by decide +kernel)) (al1 (.inr (by decide +kernel)) al0))
  generalize upd pH9 p10 (.tup [.int 63, .int 64]) = pH10 at *
  walk_at "go"
  refine ⟨lk rfl, fun p11 hp11 => ?_⟩
  have pl11 := pl10.tup (xs := [.int 17]) hp11 (by simp) (al1 (.inr (by decide +kernel)) al0)
  have pq11 : SqT K (upd pH10 p11 (.tup [.int 17])) p11 [.int 17] := SqT.of upd_same
  generalize upd pH10 p11 (.tup [.int 17]) = pH11 at *
  walk_at "go"
  refine ⟨lk rfl, fun p12 hp12 => ?_⟩
  have pl12 := pl11.tup (xs := [.int 16]) hp12 (by simp) (al1 (.inr (by decide +kernel)) al0)
  have pq12 : SqT K (upd pH11 p12 (.tup [.int 16])) p12 [.int 16] := SqT.of upd_same
  generalize upd pH11 p12 (.tup [.int 16]) = pH12 at *
  walk_at "go"
  refine ⟨lk rfl, fun p13 hp13 => ?_⟩
  have pl13 := pl12.tup (xs := [.int 65]) hp13 (by simp) (al1 (.inr (by decide +kernel)) al0)
  have pq13 : SqT K (upd pH12 p13 (.tup [.int 65])) p13 [.int 65] := SqT.of upd_same
  generalize upd pH12 p13 (.tup [.int 65]) = pH13 at *
  walk_at "go"
  refine ⟨lk rfl, fun p14 hp14 => ?_⟩
  have pl14 := pl13.tup (xs := [.int 64]) hp14 (by simp) (al1 (.inr (by decide +kernel)) al0)
  have pq14 : SqT K (upd pH13 p14 (.tup [.int 64])) p14 [.int 64] := SqT.of upd_same
  generalize upd pH13 p14 (.tup [.int 64]) = pH14 at *
  walk_at "go"
  refine ⟨lk rfl, fun p15 hp15 => ?_⟩
  have pl15 := pl14.tup (xs := [.int 3, .int 2]) hp15 (by simp) (al1 (.inr (by decide +kernel)) (al1 (.inr (by decide +kernel)) al0))
  generalize upd pH14 p15 (.tup [.int 3, .int 2]) = pH15 at *
  walk_at "go"
  refine ⟨lk rfl, fun p16 hp16 => ?_⟩
  have pl16 := pl15.tup (xs := [.int 1000003]) hp16 (by simp) (al1 (.inr (by decide +kernel)) al0)
  have pq16 : SqT K (upd pH15 p16 (.tup [.int 1000003])) p16 [.int 1000003] := SqT.of upd_same
  generalize upd pH15 p16 (.tup [.int 1000003]) = pH16 at *
  walk_at "go"
  refine ⟨lk rfl, fun p17 hp17 => ?_⟩
  have pl17 := pl16.tup (xs := [.int 1000002]) hp17 (by simp) (al1 (.inr (by decide +kernel)) al0)
  have pq17 : SqT K (upd pH16 p17 (.tup [.int 1000002])) p17 [.int 1000002] := SqT.of upd_same
  generalize upd pH16 p17 (.tup [.int 1000002]) = pH17 at *
  walk_at "go"
  refine ⟨lk rfl, fun p18 hp18 => ?_⟩
  have pl18 := pl17.tup (xs := [.str (Str.ofString "a"), .int 0]) hp18 (by simp) (al1 (.inr (by decide +kernel)) (al1 (.inr (by decide +kernel)) al0))
  generalize upd pH17 p18 (.tup [.str (Str.ofString "a"), .int 0]) = pH18 at *
  walk_at "go"
  refine ⟨lk rfl, fun p19 hp19 => ?_⟩
  have pl19 := pl18.tup (xs := [.str (Str.ofString "a"), .int 64]) hp19 (by simp) (al1 (.inr (by decide +kernel)) (al1 (.inr (by decide +kernel)) al0))
  generalize upd pH18 p19 (.tup [.str (Str.ofString "a"), .int 64]) = pH19 at *
  walk_at "go"
  refine ⟨lk rfl, fun p20 hp20 => ?_⟩
  have pl20 := pl19.tup (xs := [.str (Str.ofString "a"), .int 65]) hp20 (by simp) (al1 (.inr (by decide +kernel)) (al1 (.inr (by decide +kernel)) al0))
  generalize upd pH19 p20 (.tup [.str (Str.ofString "a"), .int 65]) = pH20 at *
  walk_at "go"
  refine ⟨lk rfl, fun p21 hp21 => ?_⟩
  have pl21 := pl20.tup (xs := [.str (Str.ofString ""), .int 1]) hp21 (by simp) (al1 (.inr (by decide +kernel)) (al1 (.inr (by decide +kernel)) al0))
  generalize upd pH20 p21 (.tup [.str (Str.ofString ""), .int 1]) = pH21 at *
  walk_at "go"
  refine ⟨lk rfl, fun p22 hp22 => ?_⟩
  have pl22 := pl21.tup (xs := [.str (Str.ofString "abcdefghi"), .int 1]) hp22 (by simp) (al1 (.inr (by decide +kernel)) (al1 (.inr (by decide +kernel)) al0))
  generalize upd pH21 p22 (.tup [.str (Str.ofString "abcdefghi"), .int 1]) = pH22 at *
  walk_at "go"
  refine ⟨lk rfl, fun p23 hp23 => ?_⟩
  have pl23 := pl22.tup (xs := [.str (Str.ofString "A"), .int 1]) hp23 (by simp) (al1 (.inr (by decide +kernel)) (al1 (.inr (by decide +kernel)) al0))
  generalize upd pH22 p23 (.tup [.str (Str.ofString "A"), .int 1]) = pH23 at *
  walk_at "go"
  refine ⟨lk rfl, fun p24 hp24 => ?_⟩
  have pl24 := pl23.tup (xs := [.str (Str.ofString "a b"), .int 1]) hp24 (by simp) (al1 (.inr (by decide +kernel)) (al1 (.inr (by decide +kernel)) al0))
  generalize upd pH23 p24 (.tup [.str (Str.ofString "a b"), .int 1]) = pH24 at *
  walk_at "go"
  refine ⟨lk rfl, fun p25 hp25 => ?_⟩
  have pl25 := pl24.tup (xs := [.int 1, .str (Str.ofString "a")]) hp25 (by simp) (al1 (.inr (by decide +kernel)) (al1 (.inr (by decide +kernel)) al0))
  generalize upd pH24 p25 (.tup [.int 1, .str (Str.ofString "a")]) = pH25 at *
  walk_at "go"
  refine ⟨lk rfl, fun p26 hp26 => ?_⟩
  have pl26 := pl25.tup (xs := [.str (Str.ofString "a")]) hp26 (by simp) (al1 (.inr (by decide +kernel)) al0)
  have pq26 : SqT K (upd pH25 p26 (.tup [.str (Str.ofString "a")])) p26 [.str (Str.ofString "a")] := SqT.of upd_same
  generalize upd pH25 p26 (.tup [.str (Str.ofString "a")]) = pH26 at *
  walk_at "go"
  refine ⟨lk rfl, fun p27 hp27 => ?_⟩
  have pl27 := pl26.tup (xs := [.str (Str.ofString "a"), .int 1, .int 1]) hp27 (by simp) (al1 (.inr (by decide +kernel)) (al1 (.inr (by decide +kernel)) (al1 (.inr (by decide +kernel)) al0)))
  generalize upd pH26 p27 (.tup [.str (Str.ofString "a"), .int 1, .int 1]) = pH27 at *
  walk_at "go"
  refine ⟨lk rfl, fun p28 hp28 => ?_⟩
  have pl28 := pl27.tup (xs := [.non]) hp28 (by simp) (al1 (.inr (by decide +kernel)) al0)
  have pq28 : SqT K (upd pH27 p28 (.tup [.non])) p28 [.non] := SqT.of upd_same
  generalize upd pH27 p28 (.tup [.non]) = pH28 at *
  walk_at "go"
  refine ⟨lk rfl, fun p29 hp29 => ?_⟩
  have pl29 := pl28.tup (xs := []) hp29 (by simp) al0
  generalize upd pH28 p29 (.tup []) = pH29 at *
  walk_at "go"
  refine ⟨lk rfl, fun p30 hp30 => ?_⟩
  have pl30 := pl29.tup (xs := [.ref p29]) hp30 (by simp) (al1 (.inl (.head _)) al0)
  have pq30 : SqT K (upd pH29 p30 (.tup [.ref p29])) p30 [.ref p29] := SqT.of upd_same
  generalize upd pH29 p30 (.tup [.ref p29]) = pH30 at *
  walk_at "go"
  refine ⟨lk rfl, fun p31 hp31 => ?_⟩
  have pl31 := pl30.tup (xs := [.int 0]) hp31 (by simp) (al1 (.inr (by decide +kernel)) al0)
  have pq31 : SqT K (upd pH30 p31 (.tup [.int 0])) p31 [.int 0] := SqT.of upd_same
  generalize upd pH30 p31 (.tup [.int 0]) = pH31 at *
  walk_at "go"
  refine u_repT (xs := [.int 0]) pq31 (by simp) (by decide) (by decide) (by decide) fun p32 hp32 => ?_
  have pl32 := pl31.tup (xs := (List.replicate (65 : Int).toNat [.int 0]).flatten) hp32 (by decide +kernel) (repM (fun x hx => by rw [show x = (.int 0 : V) by simpa using hx]; exact .inr (by decide +kernel)))
  generalize upd pH31 p32 (.tup (List.replicate (65 : Int).toNat [.int 0]).flatten) = pH32 at *
  walk_at "go"
  refine ⟨lk rfl, fun p33 hp33 => ?_⟩
  have pl33 := pl32.tup (xs := [.int 0]) hp33 (by simp) (al1 (.inr (by decide +kernel)) al0)
  have pq33 : SqT K (upd pH32 p33 (.tup [.int 0])) p33 [.int 0] := SqT.of upd_same
  generalize upd pH32 p33 (.tup [.int 0]) = pH33 at *
  walk_at "go"
  refine u_repT (xs := [.int 0]) pq33 (by simp) (by decide) (by decide) (by decide) fun p34 hp34 => ?_
  have pl34 := pl33.tup (xs := (List.replicate (64 : Int).toNat [.int 0]).flatten) hp34 (by decide +kernel) (repM (fun x hx => by rw [show x = (.int 0 : V) by simpa using hx]; exact .inr (by decide +kernel)))
  generalize upd pH33 p34 (.tup (List.replicate (64 : Int).toNat [.int 0]).flatten) = pH34 at *
  walk_at "go"
  refine ⟨lk rfl, fun p35 hp35 => ?_⟩
  have pl35 := pl34.tup (xs := [.int (10 ^ (30 : Int).toNat)]) hp35 (by simp) (al1 (.inr (by decide +kernel)) al0)
  have pq35 : SqT K (upd pH34 p35 (.tup [.int (10 ^ (30 : Int).toNat)])) p35 [.int (10 ^ (30 : Int).toNat)] := SqT.of upd_same
  generalize upd pH34 p35 (.tup [.int (10 ^ (30 : Int).toNat)]) = pH35 at *
  walk_at "go"
  refine ⟨lk rfl, fun p hp => ?_⟩
  walk_at "go"
  refine use_one (xs := [.ref p4, .ref p5, .ref p6, .ref p7, .ref p8, .ref p9, .ref p10, .ref p11, .ref p12, .ref p13, .ref p14, .ref p15, .ref p16, .ref p17, .ref p18, .ref p19, .ref p20, .ref p21, .ref p22, .ref p23, .ref p24, .ref p25, .ref p26, .ref p27, .ref p28, .ref p30, .ref p32, .ref p34, .ref p35]) (pl35.src.new hp) (SqL.of upd_same) (pl35.src.ne hp) (by simp) (by simp) fun H2 tl s2 hS2 hv => ?_
  have d2 := (pl35.lst (xs := [.ref p4, .ref p5, .ref p6, .ref p7, .ref p8, .ref p9, .ref p10, .ref p11, .ref p12, .ref p13, .ref p14, .ref p15, .ref p16, .ref p17, .ref p18, .ref p19, .ref p20, .ref p21, .ref p22, .ref p23, .ref p24, .ref p25, .ref p26, .ref p27, .ref p28, .ref p30, .ref p32, .ref p34, .ref p35]) hp).sbx s2 hS2
  have dtl : Dt K 80 H2 tl := (d2.any (al1 (.inl (.tail _ (.tail _ (.tail _ (.tail _ (.tail _ (.tail _ (.tail _ (.tail _ (.tail _ (.tail _ (.tail _ (.tail _ (.tail _ (.tail _ (.tail _ (.tail _ (.tail _ (.tail _ (.tail _ (.tail _ (.tail _ (.tail _ (.tail _ (.tail _ (.tail _ (.tail _ (.tail _ (.tail _ (.tail _ (.tail _ (.tail _ (.head _))))))))))))))))))))))))))))))))) (al1 (.inl (.tail _ (.tail _ (.tail _ (.tail _ (.tail _ (.tail _ (.tail _ (.tail _ (.tail _ (.tail _ (.tail _ (.tail _ (.tail _ (.tail _ (.tail _ (.tail _ (.tail _ (.tail _ (.tail _ (.tail _ (.tail _ (.tail _ (.tail _ (.tail _ (.tail _ (.tail _ (.tail _ (.tail _ (.tail _ (.tail _ (.head _)))))))))))))))))))))))))))))))) (al1 (.inl (.tail _ (.tail _ (.tail _ (.tail _ (.tail _ (.tail _ (.tail _ (.tail _ (.tail _ (.tail _ (.tail _ (.tail _ (.tail _ (.tail _ (.tail _ (.tail _ (.tail _ (.tail _ (.tail _ (.tail _ (.tail _ (.tail _ (.tail _ (.tail _ (.tail _ (.tail _ (.tail _ (.tail _ (.tail _ (.head _))))))))))))))))))))))))))))))) (al1 (.inl (.tail _ (.tail _ (.tail _ (.tail _ (.tail _ (.tail _ (.tail _ (.tail _ (.tail _ (.tail _ (.tail _ (.tail _ (.tail _ (.tail _ (.tail _ (.tail _ (.tail _ (.tail _ (.tail _ (.tail _ (.tail _ (.tail _ (.tail _ (.tail _ (.tail _ (.tail _ (.tail _ (.tail _ (.head _)))))))))))))))))))))))))))))) (al1 (.inl (.tail _ (.tail _ (.tail _ (.tail _ (.tail _ (.tail _ (.tail _ (.tail _ (.tail _ (.tail _ (.tail _ (.tail _ (.tail _ (.tail _ (.tail _ (.tail _ (.tail _ (.tail _ (.tail _ (.tail _ (.tail _ (.tail _ (.tail _ (.tail _ (.tail _ (.tail _ (.tail _ (.head _))))))))))))))))))))))))))))) (al1 (.inl (.tail _ (.tail _ (.tail _ (.tail _ (.tail _ (.tail _ (.tail _ (.tail _ (.tail _ (.tail _ (.tail _ (.tail _ (.tail _ (.tail _ (.tail _ (.tail _ (.tail _ (.tail _ (.tail _ (.tail _ (.tail _ (.tail _ (.tail _ (.tail _ (.tail _ (.tail _ (.head _)))))))))))))))))))))))))))) (al1 (.inl (.tail _ (.tail _ (.tail _ (.tail _ (.tail _ (.tail _ (.tail _ (.tail _ (.tail _ (.tail _ (.tail _ (.tail _ (.tail _ (.tail _ (.tail _ (.tail _ (.tail _ (.tail _ (.tail _ (.tail _ (.tail _ (.tail _ (.tail _ (.tail _ (.tail _ (.head _))))))))))))))))))))))))))) (al1 (.inl (.tail _ (.tail _ (.tail _ (.tail _ (.tail _ (.tail _ (.tail _ (.tail _ (.tail _ (.tail _ (.tail _ (.tail _ (.tail _ (.tail _ (.tail _ (.tail _ (.tail _ (.tail _ (.tail _ (.tail _ (.tail _ (.tail _ (.tail _ (.tail _ (.head _)))))))))))))))))))))))))) (al1 (.inl (.tail _ (.tail _ (.tail _ (.tail _ (.tail _ (.tail _ (.tail _ (.tail _ (.tail _ (.tail _ (.tail _ (.tail _ (.tail _ (.tail _ (.tail _ (.tail _ (.tail _ (.tail _ (.tail _ (.tail _ (.tail _ (.tail _ (.tail _ (.head _))))))))))))))))))))))))) (al1 (.inl (.tail _ (.tail _ (.tail _ (.tail _ (.tail _ (.tail _ (.tail _ (.tail _ (.tail _ (.tail _ (.tail _ (.tail _ (.tail _ (.tail _ (.tail _ (.tail _ (.tail _ (.tail _ (.tail _ (.tail _ (.tail _ (.tail _ (.head _)))))))))))))))))))))))) (al1 (.inl (.tail _ (.tail _ (.tail _ (.tail _ (.tail _ (.tail _ (.tail _ (.tail _ (.tail _ (.tail _ (.tail _ (.tail _ (.tail _ (.tail _ (.tail _ (.tail _ (.tail _ (.tail _ (.tail _ (.tail _ (.tail _ (.head _))))))))))))))))))))))) (al1 (.inl (.tail _ (.tail _ (.tail _ (.tail _ (.tail _ (.tail _ (.tail _ (.tail _ (.tail _ (.tail _ (.tail _ (.tail _ (.tail _ (.tail _ (.tail _ (.tail _ (.tail _ (.tail _ (.tail _ (.tail _ (.head _)))))))))))))))))))))) (al1 (.inl (.tail _ (.tail _ (.tail _ (.tail _ (.tail _ (.tail _ (.tail _ (.tail _ (.tail _ (.tail _ (.tail _ (.tail _ (.tail _ (.tail _ (.tail _ (.tail _ (.tail _ (.tail _ (.tail _ (.head _))))))))))))))))))))) (al1 (.inl (.tail _ (.tail _ (.tail _ (.tail _ (.tail _ (.tail _ (.tail _ (.tail _ (.tail _ (.tail _ (.tail _ (.tail _ (.tail _ (.tail _ (.tail _ (.tail _ (.tail _ (.tail _ (.head _)))))))))))))))))))) (al1 (.inl (.tail _ (.tail _ (.tail _ (.tail _ (.tail _ (.tail _ (.tail _ (.tail _ (.tail _ (.tail _ (.tail _ (.tail _ (.tail _ (.tail _ (.tail _ (.tail _ (.tail _ (.head _))))))))))))))))))) (al1 (.inl (.tail _ (.tail _ (.tail _ (.tail _ (.tail _ (.tail _ (.tail _ (.tail _ (.tail _ (.tail _ (.tail _ (.tail _ (.tail _ (.tail _ (.tail _ (.tail _ (.head _)))))))))))))))))) (al1 (.inl (.tail _ (.tail _ (.tail _ (.tail _ (.tail _ (.tail _ (.tail _ (.tail _ (.tail _ (.tail _ (.tail _ (.tail _ (.tail _ (.tail _ (.tail _ (.head _))))))))))))))))) (al1 (.inl (.tail _ (.tail _ (.tail _ (.tail _ (.tail _ (.tail _ (.tail _ (.tail _ (.tail _ (.tail _ (.tail _ (.tail _ (.tail _ (.tail _ (.head _)))))))))))))))) (al1 (.inl (.tail _ (.tail _ (.tail _ (.tail _ (.tail _ (.tail _ (.tail _ (.tail _ (.tail _ (.tail _ (.tail _ (.tail _ (.tail _ (.head _))))))))))))))) (al1 (.inl (.tail _ (.tail _ (.tail _ (.tail _ (.tail _ (.tail _ (.tail _ (.tail _ (.tail _ (.tail _ (.tail _ (.tail _ (.head _)))))))))))))) (al1 (.inl (.tail _ (.tail _ (.tail _ (.tail _ (.tail _ (.tail _ (.tail _ (.tail _ (.tail _ (.tail _ (.tail _ (.head _))))))))))))) (al1 (.inl (.tail _ (.tail _ (.tail _ (.tail _ (.tail _ (.tail _ (.tail _ (.tail _ (.tail _ (.tail _ (.head _)))))))))))) (al1 (.inl (.tail _ (.tail _ (.tail _ (.tail _ (.tail _ (.tail _ (.tail _ (.tail _ (.tail _ (.head _))))))))))) (al1 (.inl (.tail _ (.tail _ (.tail _ (.tail _ (.tail _ (.tail _ (.tail _ (.tail _ (.head _)))))))))) (al1 (.inl (.tail _ (.tail _ (.tail _ (.tail _ (.tail _ (.tail _ (.tail _ (.head _))))))))) (al1 (.inl (.tail _ (.tail _ (.tail _ (.tail _ (.tail _ (.head _))))))) (al1 (.inl (.tail _ (.tail _ (.tail _ (.head _))))) (al1 (.inl (.tail _ (.head _))) (al1 (.inl (.head _)) al0))))))))))))))))))))))))))))) tl hv).le (by decide)
  have d3 : Lay K a H 80 [.ref qa, .ref t, tl] H2 := ⟨d2.sb, hS2, fun x hx => by
    simp only [List.mem_cons, List.not_mem_nil, or_false] at hx
    rcases hx with rfl | rfl | rfl
    · exact dQ.mono (d2.ext hS)
    · exact dT.mono (d2.ext hS)
    · exact dtl⟩
  have d4 : Dt K 80 H2 (.ref p3) := (d2.dt _ (by simp)).le (by decide)
  clear d2
  have d2 := d3.push d4 (Nat.le_refl _)
  clear d3 dtl d4
  walk_at "go"
  refine ⟨lk rfl, fun p2 hp2 => ?_⟩
  walk_at "go"
  refine use_one (xs := [.str (Str.ofString "row"), .str (Str.ofString "in"), .str (Str.ofString "rev"), .str (Str.ofString "sort"), .str (Str.ofString "sum"), .str (Str.ofString "top"), .str (Str.ofString "add"), .str (Str.ofString "sub"), .str (Str.ofString "mul"), .str (Str.ofString "dot"), .str (Str.ofString "cat"), .str (Str.ofString "outer"), .str (Str.ofString "blend"), .str (Str.ofString "part"), .str (Str.ofString "rep"), .str (Str.ofString "hold"), .str (Str.ofString ""), .str (Str.ofString "Row"), .str (Str.ofString "zz"), .str (Str.ofString "adds")]) (hS2.new hp2) (SqL.of upd_same) (hS2.ne hp2) (by simp) (by simp) fun H3 ov s3 hS3 hov => ?_
  have d3 := (d2.lst (xs := [.str (Str.ofString "row"), .str (Str.ofString "in"), .str (Str.ofString "rev"), .str (Str.ofString "sort"), .str (Str.ofString "sum"), .str (Str.ofString "top"), .str (Str.ofString "add"), .str (Str.ofString "sub"), .str (Str.ofString "mul"), .str (Str.ofString "dot"), .str (Str.ofString "cat"), .str (Str.ofString "outer"), .str (Str.ofString "blend"), .str (Str.ofString "part"), .str (Str.ofString "rep"), .str (Str.ofString "hold"), .str (Str.ofString ""), .str (Str.ofString "Row"), .str (Str.ofString "zz"), .str (Str.ofString "adds")]) hp2).sbx s3 hS3
  have dov : Dt K 80 H3 ov := atom_dt ((show ∀ x ∈ ([.str (Str.ofString "row"), .str (Str.ofString "in"), .str (Str.ofString "rev"), .str (Str.ofString "sort"), .str (Str.ofString "sum"), .str (Str.ofString "top"), .str (Str.ofString "add"), .str (Str.ofString "sub"), .str (Str.ofString "mul"), .str (Str.ofString "dot"), .str (Str.ofString "cat"), .str (Str.ofString "outer"), .str (Str.ofString "blend"), .str (Str.ofString "part"), .str (Str.ofString "rep"), .str (Str.ofString "hold"), .str (Str.ofString ""), .str (Str.ofString "Row"), .str (Str.ofString "zz"), .str (Str.ofString "adds")] : List V), atomB x = true by decide +kernel) ov hov)
  have d5 := d3.push dov (Nat.le_refl _)
  clear dov d3
  walk_at "go"
  refine use_take hS3 (by omega) (by omega) fun H4 way s4 hS4 w0 w1 => ?_
  have l4 := d5.sbx s4 hS4
  clear d5
  have fin : ∀ (H5 : Hp) (x y z : V) (p : Addr), Lay K a H 88 [x, y, z] H5 → H5 p = none → Q (.ref p) (upd H5 p (.tup [x, y, z])) := fun H5 x y z p l hp => by
    have l6 := l.tup (xs := [x, y, z]) hp (by show 3 ≤ 1000; decide) (fun u hu => .inl hu)
    exact q _ _ l6.sb l6.src ((l6.dt _ List.mem_cons_self).le (by decide))
  have l5 : Lay K a H 80 [.str op, ov, .ref p3, .ref qa, .ref t, tl] H4 := l4.push (Dt.str hop) (Nat.le_refl _)
  clear l4
  have x4 := l5.ext hS
  have dp : ∀ Hk, Ext K H Hk → ∀ x ∈ pvs, Dt K 80 Hk x := fun Hk e x hx => ((dts x hx).mono e).le (by decide)
  walk_at "go"
  refine rd_split (fun c0 => ?_) (fun c0 => ?_)
  · walk_at "go"
    refine u_ixT (x4 _ _ hsj) rfl ?_
    walk_at "go"
    exact ⟨lk rfl, fun p hp => fin _ _ _ _ p ((l5.sub (fun x hx => (by
      simp only [List.mem_cons, List.not_mem_nil, or_false] at hx ⊢
      rcases hx with rfl | rfl | rfl <;> simp))).le (by decide)) hp⟩
  walk_at "go"
  refine rd_split (fun c1 => ?_) (fun c1 => ?_)
  · walk_at "go"
    refine u_ixT (x4 _ _ hsj) rfl ?_
    walk_at "go"
    exact ⟨lk rfl, fun p hp => fin _ _ _ _ p ((l5.sub (fun x hx => (by
      simp only [List.mem_cons, List.not_mem_nil, or_false] at hx ⊢
      rcases hx with rfl | rfl | rfl <;> simp))).le (by decide)) hp⟩
  walk_at "go"
  have nr : ∀ k : Nat, (List.replicate k [V.ref p3]).flatten.length = k := fun k => by simp
  have mr : ∀ k : Nat, ∀ x ∈ (List.replicate k [V.ref p3]).flatten, x = .ref p3 := fun k x hx => by simp at hx; exact hx.2
  refine rd_split (fun c2 => ?_) (fun c2 => ?_)
  · walk_at "go"
    refine u_ixT (x4 _ _ hsj) rfl ?_
    walk_at "go"
    refine u_ixT (x4 _ _ hsj) rfl ?_
    walk_at "go"
    refine u_slD (x4 _ _ hsq) (dp _ x4) (by omega) fun q1 H5 s5 d1 => ?_
    have l6 := (l5.same s5).le (show 80 ≤ 81 by decide) |>.push d1 (Nat.le_refl _)
    clear d1
    walk_at "go"
    refine ⟨lk rfl, fun b1 hb1 => ?_⟩
    have l7 := l6.same (same_new hb1 (.tup [.ref p3]))
    have sb1 : SqT K (upd H5 b1 (.tup [.ref p3])) b1 [.ref p3] := SqT.of upd_same
    generalize upd H5 b1 (.tup [.ref p3]) = H6 at *
    walk_at "go"
    refine u_catD (l7.ext hS _ _ hsq) sb1 (fun x hx => (dp _ (l7.ext hS) x hx).le (show 80 ≤ 81 by decide)) (fun x hx => l7.dt x (by rw [show x = .ref p3 by simpa using hx]; simp)) (by show pvs.length + 1 ≤ 1000; omega) (by simp) fun q2 H7 s7 d2 => ?_
    have l8 := (l7.same s7).le (show 81 ≤ 82 by decide) |>.push d2 (Nat.le_refl _)
    clear d2
    walk_at "go"
    refine ⟨lk rfl, fun b2 hb2 => ?_⟩
    have l9 := l8.same (same_new hb2 (.tup [.ref p3]))
    have sb2 : SqT K (upd H7 b2 (.tup [.ref p3])) b2 [.ref p3] := SqT.of upd_same
    generalize upd H7 b2 (.tup [.ref p3]) = H8 at *
    walk_at "go"
    refine u_repT sb2 (by simp) (by decide) (by decide) (by simp) fun b3 hb3 => ?_
    have l10 := l9.same (same_new hb3 (.tup (List.replicate (4 : Int).toNat [V.ref p3]).flatten))
    have sb3 : SqT K (upd H8 b3 (.tup (List.replicate (4 : Int).toNat [V.ref p3]).flatten)) b3 (List.replicate (4 : Int).toNat [V.ref p3]).flatten := SqT.of upd_same
    generalize upd H8 b3 (.tup (List.replicate (4 : Int).toNat [V.ref p3]).flatten) = H9 at *
    walk_at "go"
    refine u_catD (l10.ext hS _ _ hsq) sb3 (fun x hx => (dp _ (l10.ext hS) x hx).le (show 80 ≤ 82 by decide)) (fun x hx => l10.dt x (by rw [mr _ x hx]; simp)) (by rw [nr]; show pvs.length + 4 ≤ 1000; omega) (by simp) fun q3 H10 s10 d3 => ?_
    have l11 := (l10.same s10).le (show 82 ≤ 83 by decide) |>.push d3 (Nat.le_refl _)
    clear d3
    walk_at "go"
    refine ⟨lk rfl, fun b4 hb4 => ?_⟩
    have l12 := l11.tup (xs := []) hb4 (by simp) al0
    generalize upd H10 b4 (.tup []) = H11 at *
    walk_at "go"
    refine ⟨lk rfl, fun p hp => ?_⟩
    walk_at "go"
    refine use_one (xs := [.ref q1, .ref q2, .ref q3, .ref b4]) (l12.src.new hp) (SqL.of upd_same) (l12.src.ne hp) (by simp) (by simp) fun H12 v12 s12 hS12 hv12 => ?_
    have l13 := (l12.lst (xs := [.ref q1, .ref q2, .ref q3, .ref b4]) hp).sbx s12 hS12
    walk_at "go"
    exact ⟨lk rfl, fun p' hp' => fin _ _ _ _ p' ((l13.sub (fun x hx => (by
      simp only [List.mem_cons, List.not_mem_nil, or_false] at hx hv12 ⊢
      rcases hx with rfl | rfl | rfl
      · simp
      · simp
      · rcases hv12 with rfl | rfl | rfl | rfl <;> simp))).le (by decide)) hp'⟩
  walk_at "go"
  refine ⟨lk rfl, fun b1 hb1 => ?_⟩
  have l6 := l5.tup (xs := []) hb1 (by simp) al0
  generalize upd H4 b1 (.tup []) = H5 at *
  walk_at "go"
  refine ⟨lk rfl, fun b2 hb2 => ?_⟩
  have l7 := l6.tup (xs := [.ref p3]) hb2 (by simp) (al1 (.inl (by simp)) al0)
  generalize upd H5 b2 (.tup [.ref p3]) = H6 at *
  walk_at "go"
  refine ⟨lk rfl, fun b3 hb3 => ?_⟩
  have l8 := l7.tup (xs := [.ref p3, .ref p3]) hb3 (by simp) (al1 (.inl (by simp)) (al1 (.inl (by simp)) al0))
  generalize upd H6 b3 (.tup [.ref p3, .ref p3]) = H7 at *
  walk_at "go"
  refine ⟨lk rfl, fun b4 hb4 => ?_⟩
  have l9 := l8.same (same_new hb4 (.tup [.ref p3]))
  have sb4 : SqT K (upd H7 b4 (.tup [.ref p3])) b4 [.ref p3] := SqT.of upd_same
  generalize upd H7 b4 (.tup [.ref p3]) = H8 at *
  walk_at "go"
  refine u_repT sb4 (by simp) (by decide) (by decide) (by simp) fun b5 hb5 => ?_
  have l10 := l9.tup (xs := (List.replicate (5 : Int).toNat [V.ref p3]).flatten) hb5 (by rw [nr]; decide) (fun x hx => .inl (by rw [mr _ x hx]; simp))
  generalize upd H8 b5 (.tup (List.replicate (5 : Int).toNat [V.ref p3]).flatten) = H9 at *
  walk_at "go"
  refine ⟨lk rfl, fun p hp => ?_⟩
  walk_at "go"
  refine use_one (xs := [.ref qa, .ref b1, .ref b2, .ref b3, .ref b5]) (l10.src.new hp) (SqL.of upd_same) (l10.src.ne hp) (by simp) (by simp) fun H12 v12 s12 hS12 hv12 => ?_
  have l13 := (l10.lst (xs := [.ref qa, .ref b1, .ref b2, .ref b3, .ref b5]) hp).sbx s12 hS12
  walk_at "go"
  exact ⟨lk rfl, fun p' hp' => fin _ _ _ _ p' ((l13.sub (fun x hx => (by
    simp only [List.mem_cons, List.not_mem_nil, or_false] at hx hv12 ⊢
    rcases hx with rfl | rfl | rfl
    · simp
    · simp
    · rcases hv12 with rfl | rfl | rfl | rfl | rfl <;> simp))).le (by decide)) hp'⟩
end
end Mine

/-! ### Q5 -/
set_option maxHeartbeats 1000000
namespace Mine
open PySem PySem.Spec L2
local macro_rules | `(tactic| walk_at "st") => `(tactic| first
  | ((with_reducible apply rd_var); exact rfl)
  | (with_reducible apply rd_c)
  | (with_reducible apply rd_seq)
  | (with_reducible apply rd_asg)
  | (with_reducible apply rd_gname)
  | (with_reducible apply rd_op)
  | (with_reducible apply rd_cb)
  | (with_reducible apply rd_cons)
  | (with_reducible apply rd_nil)
  | (with_reducible apply rd_if)
  | (with_reducible apply rd_test)
  | (with_reducible apply rd_bl)
  | (with_reducible apply rd_retE)
  | (with_reducible apply rd_ret)
  | (with_reducible apply rd_call)
  | (with_reducible apply rd_tup)
  | (with_reducible apply rd_lst)
  | (with_reducible apply rd_drop)
  | (with_reducible apply rd_next)
  | (with_reducible apply rd_ife)
  | (with_reducible apply rd_gsub)
  | (with_reducible apply rd_par)
  | (with_reducible apply rd_par_end)
  | (with_reducible apply rd_un)
  | (with_reducible apply rd_and)
  | (with_reducible apply rd_or)
  | (with_reducible apply rd_not)
  | (with_reducible apply rd_andV)
  | (with_reducible apply rd_orV)
  | (with_reducible apply rd_notV)
  | (with_reducible apply rd_chain)
  | (with_reducible apply rd_tB)
  | (with_reducible apply rd_brk)
  | (with_reducible apply rd_ct)
  | (with_reducible apply u_add)
  | (with_reducible apply u_sub)
  | (with_reducible apply u_lt)
  | (with_reducible apply u_le)
  | (with_reducible apply u_gt)
  | (with_reducible apply u_ge)
  | (with_reducible apply u_eqI)
  | (with_reducible apply u_eqS)
  | (with_reducible apply u_neI)
  | (with_reducible apply u_int)
  | (with_reducible apply u_intB)
  | (with_reducible apply u_max)
  | (with_reducible apply u_min)
  | (with_reducible apply u_neg)
  | ((with_reducible apply u_mod); focus first | assumption | decide | omega)
  | ((with_reducible apply u_div); focus first | decide | omega | (constructor <;> first | assumption | omega))
  | ((with_reducible apply u_mul); focus first | exact Or.inl (by omega) | exact Or.inr (by omega) | exact Or.inl (by decide) | exact Or.inr (by decide))
  | ((with_reducible apply u_ixL); (focus (first | assumption | exact SqL.of (by assumption) | exact SqL.of upd_same)); exact rfl)
  | ((with_reducible apply u_lenL); focus (first | assumption | exact SqL.of (by assumption) | exact SqL.of upd_same))
  | ((with_reducible apply u_lenT); focus (first | assumption | exact SqT.of (by assumption) | exact SqT.of upd_same))
  | ((with_reducible apply u_setL); (focus (first | assumption | exact upd_same)); exact rfl)
  | (with_reducible apply rd_chain3)
  | (with_reducible apply rd_tru)
  | (with_reducible apply rd_truB)
  | ((with_reducible apply rd_truL); focus (first | assumption | exact SqL.of (by assumption) | exact SqL.of upd_same))
  | (with_reducible apply rd_bm)
  | (with_reducible apply rd_bm0)
  | ((with_reducible apply rd_tyL); focus (first | exact SqL.of (by assumption) | exact SqL.of upd_same))
  | (with_reducible apply u_min3)
  | (with_reducible apply rd_rev)
  | (with_reducible apply rd_iList)
  | (with_reducible apply rd_iTup)
  | (with_reducible apply rd_for)
  | (with_reducible apply rd_rng1)
  | (with_reducible apply rd_rng2)
  | ((with_reducible apply rd_rng1e); (focus omega); (focus omega))
  | ((with_reducible apply rd_rng2e); (focus omega))
  | (with_reducible apply rd_gcons)
  | (with_reducible apply rd_gnil)
  | (with_reducible apply rd_retN)
  | (with_reducible apply g_eqI)
  | (with_reducible apply g_eqS)
  | (with_reducible apply g_neI)
  | (with_reducible apply g_neS)
  | (with_reducible apply g_neB)
  | (with_reducible apply rd_xf)
  | (with_reducible apply rd_raiseE)
  | (with_reducible apply rd_callS)
  | (with_reducible apply u_inD)
  | (with_reducible apply u_notInD)
  | (with_reducible apply u_inS)
  | (with_reducible apply u_notInS)
  | (with_reducible apply rd_iSeq)
  | ((with_reducible apply rd_seqL); (focus first | assumption | exact SqL.of (by assumption) | exact SqL.of upd_same))
  | ((with_reducible apply rd_seqT); (focus first | assumption | exact SqT.of (by assumption) | exact SqT.of upd_same))
  | (with_reducible apply rd_istr)
  | (with_reducible apply rd_istrE)
  | ((with_reducible apply u_isi); (focus (first | exact Or.inl rfl | exact Or.inr (Or.inl rfl) | exact Or.inr (Or.inr (Or.inl rfl)) | exact Or.inr (Or.inr (Or.inr rfl)))); (focus first | assumption | exact Rp.int _ | exact Rp.str _))
  | ((with_reducible apply rd_itL); (focus first | assumption | exact SqL.of (by assumption) | exact SqL.of upd_same))
  | ((with_reducible apply rd_itT); (focus first | assumption | exact SqT.of (by assumption) | exact SqT.of upd_same))
  | (with_reducible apply rd_lc)
  | (with_reducible apply rd_yes)
  | ((with_reducible apply u_pow); (focus (exact ⟨by decide, by decide, by decide⟩)))
  | (with_reducible apply u_mul; focus exact Or.inr cm)
  | (with_reducible apply rd_par3)
  | (with_reducible apply rd_par3_end)
  | ((with_reducible apply rd_aug); exact rfl)
  | (with_reducible apply rd_ipI)
  | (with_reducible apply rd_dnew)
  | (with_reducible apply rd_din)
  | (with_reducible apply rd_dget)
  | (with_reducible apply rd_dput)
  | (with_reducible apply rd_disp1)
  | (with_reducible apply rd_sl)
  | (with_reducible apply rd_part)
  | (with_reducible apply rd_partI)
  | (with_reducible apply rd_nopart)
  | (with_reducible apply iteT)
  | (with_reducible apply iteF))
local macro_rules | `(tactic| walk_at "go") => `(tactic| repeat (walk_at "st"))
local macro_rules | `(tactic| walk_at "sp") => `(tactic| (first | refine rd_split (fun c => ?_) (fun c => ?_) | refine rd_splitN (fun c => ?_) (fun c => ?_) | refine rd_splitB (fun c => ?_) (fun c => ?_)))
local macro_rules | `(tactic| walk_at "nx") => `(tactic| repeat (first | (with_reducible apply iteF) | (with_reducible apply iteT) | (with_reducible apply rd_next)))

section
variable {P : Program} {w : World} {K : PySem.W.Frag} {mg : Str → Option Value} {base : Heap}
/-- the answer told of a thing -/
theorem told_rp {H : Hp} {v : V} {d : PyData} {a : Addr} (r : Rp K H v d) (F : (walk 42 [d] 0 = none ∧ H a = some (.tup [.str "good", v])) ∨ ∃ f n, walk 42 [d] 0 = some (f, n) ∧ H a = some (.tup [.str (fword f), .int n])) : Rp K H (.ref a) (due d) := by
  unfold due
  rcases F with ⟨e, h⟩ | ⟨f, n, e, h⟩
  · rw [e]
    exact .tup (SqT.of h) (.cons (.str _) (.cons r .nil))
  · rw [e]
    exact .tup (SqT.of h) (.cons (.str _) (.cons (.int n) .nil))
theorem okS_word (f : Flt) : okS (fword f) := by cases f <;> exact okS_of (by decide +kernel) (by decide +kernel)
theorem due_dat {d : PyData} (h : dat d) : dat (due d) := by
  unfold due
  split
  · simp only [dat, dats]
    exact ⟨by simp, okS_of (by decide +kernel) (by decide +kernel), h, trivial⟩
  · rename_i f n e
    simp only [dat, dats]
    exact ⟨by simp, okS_word f, trivial, trivial⟩
theorem due_deep {d : PyData} : (due d).depth ≤ d.depth + 1 := by
  unfold due
  split <;> simp [PyData.depth, PyData.depthAll]
theorem told_first {H : Hp} {v : V} {d : PyData} {a : Addr} (F : (walk 42 [d] 0 = none ∧ H a = some (.tup [.str "good", v])) ∨ ∃ f n, walk 42 [d] 0 = some (f, n) ∧ H a = some (.tup [.str (fword f), .int n])) :
    ∃ (z : Str) (u : V), SqT K H a [.str z, u] ∧ decide (z = Str.ofString "good") = isProg d := by
  rcases F with ⟨e, h⟩ | ⟨f, n, e, h⟩
  · refine ⟨_, _, SqT.of h, ?_⟩
    unfold isProg
    rw [e]
    decide +kernel
  · refine ⟨_, _, SqT.of h, ?_⟩
    unfold isProg
    rw [e]
    show decide (fword f = Str.ofString "good") = false
    cases f <;> decide +kernel
theorem use_told {v : V} {d : PyData} {H : Hp} {Q : VK} {E : XK} (r : Rp K H v d) (h : dat d) (q : ∀ (H' : Hp) (a : Addr), Same H H' →
  ((walk 42 [d] 0 = none ∧ H' a = some (.tup [.str "good", v])) ∨ ∃ f n, walk 42 [d] 0 = some (f, n) ∧ H' a = some (.tup [.str (fword f), .int n])) → Q (.ref a) H') : spTold K [v] H Q E := ⟨v, d, rfl, r, h, q⟩
/-- one of the joints listed -/
theorem pickJ {H : Hp} {ws : List V} {j : Jn} {i : Int} (r : Rps K H ws (Jn.pys j.all)) (hok : j.ok) (h0 : 0 ≤ i) (h1 : i < ws.length) : ∃ (v : V) (jx : Jn), atI ws i = some v ∧ Rp K H v jx.py ∧ jx.ok ∧ jx.cnt ≤ j.cnt := by
  have hk : i.toNat < ws.length := by omega
  have e : i = ((i.toNat : Nat) : Int) := by omega
  have q : ws[i.toNat]? = some ws[i.toNat] := List.getElem?_eq_getElem hk
  obtain ⟨jx, ex, rx⟩ := r.part q
  have o := all_ok j hok jx (List.mem_of_getElem? ex)
  refine ⟨_, jx, ?_, rx, o.1, o.2⟩
  have q2 := atI_nat q
  rw [← e] at q2
  exact q2
/-- News is defined in Q2; what stands while the law goes on -/
structure Rt (K : PySem.W.Frag) (a : Addr) (H1 : Hp) (b dN : Addr) (ws : List V) (kvs : List (Key × V)) (pr : V) (j : Jn) (L : List V) (H : Hp) : Prop where
  lay : Lay K a H1 170 L H
  eb : H b = some (.lst ws)
  ed : H dN = some (.dK kvs)
  rs : Rps K H ws (Jn.pys j.all)
  nw : News K 90 H kvs
  rp : Rp K H pr j.py
  nb : b ≠ a
  nd : dN ≠ a
section
variable {a : Addr} {H1 H H' : Hp} {b dN D : Addr} {ws : List V} {kvs : List (Key × V)} {pr v : V} {j : Jn} {L : List V} {o u : HO}
theorem Rt.src (h : Rt K a H1 b dN ws kvs pr j L H) : Src H a := h.lay.src
theorem Rt.step (h : Rt K a H1 b dN ws kvs pr j L H) (s : SB a H H') (hs : Src H' a) : Rt K a H1 b dN ws kvs pr j L H' := by
  have x : Ext K H H' := h.src.ext s
  exact ⟨h.lay.sbx s hs, s _ _ h.nb h.eb, s _ _ h.nd h.ed, h.rs.mono x _ _, h.nw.mono x, h.rp.mono x _ _, h.nb, h.nd⟩
theorem Rt.same (h : Rt K a H1 b dN ws kvs pr j L H) (s : Same H H') : Rt K a H1 b dN ws kvs pr j L H' := h.step (SB.of_same s) (h.src.same s)
theorem Rt.push (h : Rt K a H1 b dN ws kvs pr j L H) {m : Nat} (d : Dt K m H v) (l : m ≤ 170) : Rt K a H1 b dN ws kvs pr j (v :: L) H := ⟨h.lay.push (d.le l) (Nat.le_refl _), h.eb, h.ed, h.rs, h.nw, h.rp, h.nb, h.nd⟩
theorem Rt.write (h : Rt K a H1 b dN ws kvs pr j L H) (hD : H1 D = none) (nd : D ≠ a) (n1 : D ≠ b) (n2 : D ≠ dN) (e : H D = some o) (hn : noTup o) : Rt K a H1 b dN ws kvs pr j L (upd H D u) := by
  have x : Ext K H (upd H D u) := Ext.set e hn
  exact ⟨h.lay.write hD nd e hn, by rw [upd_ne n1.symm]; exact h.eb, by rw [upd_ne n2.symm]; exact h.ed, h.rs.mono x _ _, h.nw.mono x, h.rp.mono x _ _, h.nb, h.nd⟩
theorem Rt.put (h : Rt K a H1 b dN ws kvs pr j L H) (hD : H1 dN = none) (n : b ≠ dN) {i : Int} (d : Dt K 90 H v) : Rt K a H1 b dN ws (putK kvs (Sum.inl i) v) pr j L (upd H dN (.dK (putK kvs (Sum.inl i) v))) := by
  have x : Ext K H (upd H dN (.dK (putK kvs (Sum.inl i) v))) := Ext.set h.ed trivial
  exact ⟨h.lay.write hD h.nd h.ed trivial, by rw [upd_ne n]; exact h.eb, upd_same, h.rs.mono x _ _, (h.nw.put d).mono x, h.rp.mono x _ _, h.nb, h.nd⟩
end
def spRight : Sp := fun vs H Q _ => ∃ (a : Addr), vs = [.ref a] ∧ Src H a ∧ ∀ H', SB a H H' → Q (.bl true) H'
abbrev s_law_right : Stmt := top 53
theorem sc_law_right : FnScope ["source", "program", "listed", "news", "j", "once", "twice", "turn", "place", "bent", "long", "thing", "due", "told"] ["source"] (defScope s_law_right) := ⟨rfl, rfl, rfl, by decide +kernel, rfl, by decide +kernel, by decide +kernel⟩
theorem has_right (O : OwnF K mg "_law_right" s_law_right) (B : Bl mg) (h_law_take : HasF P w K mg base CX0 1 "_law_take" ["source", "top"] spTake) (h_law_one : HasF P w K mg base CX0 2 "_law_one" ["source", "things"] (spOne K)) (h_law_program : HasF P w K mg base CX0 125 "_law_program" ["source", "most"] (spProg K))
    (h_law_listed : HasF P w K mg base CX0 41 "_law_listed" ["joint"] (spLs K 40)) (h_law_put : HasF P w K mg base CX0 81 "_law_put" ["joint", "number", "news"] (spPut K 40)) (h_law_misjoined : HasF P w K mg base CX0 3 "_law_misjoined" ["source", "joint"] (spMis K)) (h_law_odd : HasF P w K mg base CX0 3 "_law_odd" ["source"] (spOdd K))
    (h_law_due : HasF P w K mg base CX0 3 "_law_due" ["thing"] (spTold K)) (h_law_told : HasF P w K mg base CX0 9 "_law_told" ["thing"] (spTold K)) (h_is_program : HasF P w K mg base CX0 9 "is_program" ["thing"] (spAsk K isProg)) : HasF P w K mg base CX0 126 "_law_right" ["source"] spRight := by
  refine has0 O sc_law_right (fun _ _ _ _ _ _ us hl => match us, hl with | [_], _ => rfl) (fun vs H Q E h => ?_) (fun f cdv A outer s_ H vs Q E hr h => ?_)
  · obtain ⟨a, rfl, _⟩ := h
    rfl
  obtain ⟨a, rfl, hS, q⟩ := h
  refine ⟨_, (pss_cons (ps_set (i := 1) sc_law_right.nd rfl (by first | exact Or.inl rfl | exact Or.inr rfl) (pe_callH h_law_program (hr.mono (by first | decide | omega)) (by rfl) pass0 (pa_cons (pv 0) (pa_cons (pe_callH h_law_one (hr.mono (by first | decide | omega)) (by rfl) pass0 (pa_cons (pv 0) (pa_cons (pe_lst (pa_cons pe_int (pa_cons pe_int (pa_cons pe_int pa_nil)))) pa_nil))) pa_nil)))) (pss_cons (ps_par (i := 2) (j := 3) (by rfl) sc_law_right.nd rfl rfl (by decide) rfl rfl (pa_cons (pe_callH h_law_listed (hr.mono (by first | decide | omega)) (by rfl) pass0 (pa_cons (pv 1) pa_nil)) (pa_cons pe_dnewK pa_nil)) (by rfl)) (pss_cons (ps_set (i := 4) sc_law_right.nd rfl (by first | exact Or.inl rfl | exact Or.inr rfl) (pe_callH h_law_take (hr.mono (by first | decide | omega)) (by rfl) pass0 (pa_cons (pv 0) (pa_cons (pe_callB (kLen K) (by rfl) B.len (by decide +kernel) (pa_cons (pv 2) pa_nil)) pa_nil)))) (pss_cons (ps_set (i := 5) sc_law_right.nd rfl (by first | exact Or.inl rfl | exact Or.inr rfl) (pe_callH h_law_put (hr.mono (by first | decide | omega)) (by rfl) pass0 (pa_cons (pv 1) (pa_cons pe_int (pa_cons (pe_disp (pps_cons (pv 4) (pe_callH h_law_misjoined (hr.mono (by first | decide | omega)) (by rfl) pass0 (pa_cons (pv 0) (pa_cons (pe_ix (kIx K) (pv 2) (pv 4) (fun _ _ => rfl)) pa_nil))) pps_nil) (by rfl) (by rfl) (fun z => by cases z) (by decide)) pa_nil))))) (pss_cons (ps_set (i := 6) sc_law_right.nd rfl (by first | exact Or.inl rfl | exact Or.inr rfl) (pe_callH h_law_put (hr.mono (by first | decide | omega)) (by rfl) pass0 (pa_cons (pv 1) (pa_cons pe_int (pa_cons (pe_disp (pps_cons (pe_callH h_law_take (hr.mono (by first | decide | omega)) (by rfl) pass0 (pa_cons (pv 0) (pa_cons (pe_op (kAdd K) (pv 4) pe_int) pa_nil))) (pe_callH h_law_one (hr.mono (by first | decide | omega)) (by rfl) pass0 (pa_cons (pv 0) (pa_cons (pe_lst (pa_cons (pe_callH h_law_odd (hr.mono (by first | decide | omega)) (by rfl) pass0 (pa_cons (pv 0) pa_nil)) (pa_cons (pe_callH h_law_program (hr.mono (by first | decide | omega)) (by rfl) pass0 (pa_cons (pv 0) (pa_cons pe_int pa_nil))) pa_nil))) pa_nil))) pps_nil) (by rfl) (by rfl) (fun z => by cases z) (by decide)) pa_nil))))) (pss_cons (ps_for PassesOwn.never rfl (pi_range1 (by rfl) B.range (pa_cons pe_int pa_nil)) (pg_name (i := 7) sc_law_right.nd rfl (by first | exact Or.inl rfl | exact Or.inr rfl)) (pss_cons (ps_set (i := 8) sc_law_right.nd rfl (by first | exact Or.inl rfl | exact Or.inr rfl) (pe_callH h_law_take (hr.mono (by first | decide | omega)) (by rfl) pass0 (pa_cons (pv 0) (pa_cons (pe_callB (kLen K) (by rfl) B.len (by decide +kernel) (pa_cons (pv 2) pa_nil)) pa_nil)))) (pss_one (ps_dput (hu_of hr) (pv 3) (pv 8) (pe_ifExp (pt_cmpR (kEqG K (hU hr)) (pe_callH h_law_take (hr.mono (by first | decide | omega)) (by rfl) pass0 (pa_cons (pv 0) (pa_cons pe_int pa_nil))) pe_int (nomark _)) (pe_callH h_law_odd (hr.mono (by first | decide | omega)) (by rfl) pass0 (pa_cons (pv 0) pa_nil)) (pe_callH h_law_misjoined (hr.mono (by first | decide | omega)) (by rfl) pass0 (pa_cons (pv 0) (pa_cons (pe_ix (kIx K) (pv 2) (pv 8) (fun _ _ => rfl)) pa_nil)))) rfl)))) (pss_cons (ps_set (i := 9) sc_law_right.nd rfl (by first | exact Or.inl rfl | exact Or.inr rfl) (pe_callH h_law_put (hr.mono (by first | decide | omega)) (by rfl) pass0 (pa_cons (pv 1) (pa_cons pe_int (pa_cons (pv 3) pa_nil))))) (pss_cons (ps_set (i := 10) sc_law_right.nd rfl (by first | exact Or.inl rfl | exact Or.inr rfl) (pe_callH h_law_one (hr.mono (by first | decide | omega)) (by rfl) pass0 (pa_cons (pv 0) (pa_cons (pe_lst (pa_cons (pv 1) (pa_cons (pe_tup (pa_cons pe_str (pa_cons (pe_tup pa_nil) (pa_cons (pe_tup (pa_cons (pv 1) (pa_cons (pv 1) pa_nil))) pa_nil)))) (pa_cons (pe_tup (pa_cons pe_str (pa_cons (pe_tup pa_nil) (pa_cons (pe_tup (pa_cons (pv 1) (pa_cons (pe_ix (kIx K) (pv 2) pe_int (fun _ _ => rfl)) (pa_cons (pv 9) pa_nil)))) pa_nil)))) pa_nil)))) pa_nil)))) (pss_cons (ps_for PassesOwn.never rfl (pi_range1 (by rfl) B.range (pa_cons (pe_callH h_law_take (hr.mono (by first | decide | omega)) (by rfl) pass0 (pa_cons (pv 0) (pa_cons pe_int pa_nil))) pa_nil)) (pg_name (i := 7) sc_law_right.nd rfl (by first | exact Or.inl rfl | exact Or.inr rfl)) (pss_one (ps_set (i := 10) sc_law_right.nd rfl (by first | exact Or.inl rfl | exact Or.inr rfl) (pe_tup (pa_cons pe_str (pa_cons (pe_tup pa_nil) (pa_cons (pe_tup (pa_cons (pv 10) pa_nil)) pa_nil))))))) (pss_cons (ps_for PassesOwn.never rfl (pi_listK K (pe_lst (pa_cons (pv 1) (pa_cons (pv 5) (pa_cons (pv 6) (pa_cons (pv 9) (pa_cons (pv 10) (pa_cons (pe_callH h_law_odd (hr.mono (by first | decide | omega)) (by rfl) pass0 (pa_cons (pv 0) pa_nil)) pa_nil)))))))) (pg_name (i := 11) sc_law_right.nd rfl (by first | exact Or.inl rfl | exact Or.inr rfl)) (pss_cons (ps_par (i := 12) (j := 13) (by rfl) sc_law_right.nd rfl rfl (by decide) rfl rfl (pa_cons (pe_callH h_law_due (hr.mono (by first | decide | omega)) (by rfl) pass0 (pa_cons (pv 11) pa_nil)) (pa_cons (pe_callH h_is_program (hr.mono (by first | decide | omega)) (by rfl) pass0 (pa_cons (pv 11) pa_nil)) pa_nil)) (by rfl)) (pss_one (ps_if (PW.pt (pw_or (pt_cmpR (kNeG K (hU hr)) (pe_callH h_law_told (hr.mono (by first | decide | omega)) (by rfl) pass0 (pa_cons (pv 11) pa_nil)) (pv 12) (nomark _)) (pw_or (pt_not (pt_val (pe_callB (kIsi K) (by rfl) B.isinstance (by decide +kernel) (pa_cons (pv 13) (pa_cons (pe_bltn (v := .ty "bool") (by rfl) B.bool (by decide +kernel) rfl) pa_nil))))) (pw_or1 (pt_cmpR (kNeG K (hU hr)) (pv 13) (pe_cmpR (kEqG K (hU hr)) (pe_ix (kIx K) (pv 12) pe_int (fun _ _ => rfl)) pe_str (nomark _)) (nomark _)))))) (pss_one (ps_ret pe_bl)) pss_nil)))) (pss_one (ps_ret pe_bl)))))))))))), ?_⟩
  refine st0 [some (.ref a), none, none, none, none, none, none, none, none, none, none, none, none, none] rfl ?_
  walk_at "go"
  refine ⟨lk rfl, fun p0 hp0 => ?_⟩
  walk_at "go"
  refine use_one (xs := [.int 8, .int 20, .int 40]) (hS.new hp0) (SqL.of upd_same) (hS.ne hp0) (by simp) (by simp) fun H0 v0 s0 hS0 hv0 => ?_
  obtain ⟨most, rfl, m1, m2⟩ : ∃ m : Int, v0 = .int m ∧ 1 ≤ m ∧ m ≤ 40 := by
    simp only [List.mem_cons, List.not_mem_nil, or_false] at hv0
    rcases hv0 with rfl | rfl | rfl
    · exact ⟨_, rfl, by omega, by omega⟩
    · exact ⟨_, rfl, by omega, by omega⟩
    · exact ⟨_, rfl, by omega, by omega⟩
  walk_at "go"
  refine use_prog hS0 m1 m2 fun H1 pr j s1 hS1 hr1 hok hc => ?_
  have sA : SB a H H1 := (SB.refl.new hp0).trans (s0.trans s1)
  have hc40 : j.cnt ≤ 40 := by omega
  have hcp := cnt_pos j
  clear s0 s1 hS0 hv0
  walk_at "go"
  refine use_ls hr1 hok hc40 hc40 fun H2 b ws s2 hb e2 r2 => ?_
  have nb : b ≠ a := hS1.ne hb
  have lw : ws.length = j.cnt := by rw [r2.length, pys_length, all_cnt]
  have l2 : Lay K a H1 170 [pr] H2 := ⟨SB.of_same s2, hS1.same s2, fun x hx => by
    rw [show x = pr by simpa using hx]
    exact ((Dt.jn hr1 hok (Nat.le_refl _)).mono (Ext.of_same s2)).le (by omega)⟩
  walk_at "go"
  intro dN hdN
  have nd : dN ≠ a := l2.src.ne hdN
  have nbd : b ≠ dN := ne_of_none e2 hdN
  have h1dN : H1 dN = none := l2.sb.fresh nd hdN
  have x3 : Ext K H2 (upd H2 dN (.dK [])) := Ext.new hdN
  have t3 : Rt K a H1 b dN ws [] pr j [pr] (upd H2 dN (.dK [])) := ⟨l2.same (same_new hdN (.dK [])), by rw [upd_ne nbd]; exact e2, upd_same, r2.mono x3 _ _, (fun _ z => nomatch z), (hr1.mono (Ext.of_same s2) _ _).mono x3 _ _, nb, nd⟩
  clear s2 e2 r2 l2 x3
  generalize upd H2 dN (.dK []) = H3 at *
  -- j
  walk_at "go"
  refine u_lenL (SqL.of t3.eb) ?_
  walk_at "go"
  refine use_take t3.src (by omega) (by omega) fun H4 jj s4 hS4 j0 j1 => ?_
  have t4 := t3.step s4 hS4
  clear s4 t3
  obtain ⟨vj, jx, aj, rj, okj, cj⟩ := pickJ t4.rs hok j0 j1
  -- once
  walk_at "go"
  intro d1 hd1
  have nd1 : d1 ≠ a := hS4.ne hd1
  have h1d1 : H1 d1 = none := t4.lay.sb.fresh nd1 hd1
  have n51 : d1 ≠ b := (ne_of_none t4.eb hd1).symm
  have n52 : d1 ≠ dN := (ne_of_none t4.ed hd1).symm
  have sN := same_new hd1 (.dK [])
  walk_at "go"
  have t4' := t4.same sN
  refine u_ixL (SqL.of t4'.eb) aj ?_
  walk_at "go"
  refine use_mis t4'.src (rj.mono (Ext.of_same sN) _ _) okj (by omega) fun H5 u5 s5 hS5 dt5 => ?_
  have t5 := t4'.step s5 hS5
  have f5 := s5 _ _ nd1 (show (upd H4 d1 (.dK [])) d1 = some (.dK []) from upd_same)
  clear t4 rj sN t4' s5
  walk_at "go"
  refine u_disp1 f5 ?_
  rw [merge1]
  have x6 : Ext K H5 (upd H5 d1 (.dK [(Sum.inl jj, u5)])) := Ext.set f5 trivial
  have t6 : Rt K a H1 b dN ws [] pr j [pr] (upd H5 d1 (.dK [(Sum.inl jj, u5)])) := t5.write h1d1 nd1 n51 n52 f5 trivial
  have f6 : (upd H5 d1 (.dK [(Sum.inl jj, u5)])) d1 = some (.dK [(Sum.inl jj, u5)]) := upd_same
  have dt6 := dt5.mono x6
  clear t5 dt5 f5 x6
  generalize upd H5 d1 (.dK [(Sum.inl jj, u5)]) = H6 at *
  walk_at "go"
  refine use_put t6.rp hok hc40 hc40 f6 (m := 90) (fun kv hkv => by rw [show kv = (Sum.inl jj, u5) by simpa using hkv]; exact dt6) fun H7 once s7 dto => ?_
  have t7 := (t6.same s7).push dto (by omega)
  clear t6 dt6 f6 dto s7
  -- twice
  walk_at "go"
  intro d2 hd2
  have nd2 : d2 ≠ a := t7.src.ne hd2
  have h1d2 : H1 d2 = none := t7.lay.sb.fresh nd2 hd2
  have m51 : d2 ≠ b := (ne_of_none t7.eb hd2).symm
  have m52 : d2 ≠ dN := (ne_of_none t7.ed hd2).symm
  have t8 := t7.same (same_new hd2 (.dK []))
  have f8 : (upd H7 d2 (.dK [])) d2 = some (.dK []) := upd_same
  clear t7
  generalize upd H7 d2 (.dK []) = H8 at *
  walk_at "go"
  refine use_take t8.src (by omega) (by omega) fun H9 j2 s9 hS9 k0 k1 => ?_
  have t9 := t8.step s9 hS9
  have f9 := s9 _ _ nd2 f8
  clear t8 f8 s9
  walk_at "go"
  refine use_odd hS9 fun H10 o1 s10 hS10 dt10 => ?_
  have t10 := t9.step s10 hS10
  have f10 := s10 _ _ nd2 f9
  clear t9 f9 s10
  walk_at "go"
  refine use_prog hS10 (by omega) (by omega) fun H11 o2 jo s11 hS11 ro oko co => ?_
  have t11 := t10.step s11 hS11
  have f11 := s11 _ _ nd2 f10
  have da : Dt K 90 H11 o1 := (dt10.mono (hS10.ext s11)).le (by decide)
  have db : Dt K 90 H11 o2 := (Dt.jn ro oko (Nat.le_refl _)).le (by omega)
  clear t10 f10 s11 dt10 ro
  walk_at "go"
  refine ⟨lk rfl, fun p2 hp2 => ?_⟩
  have t12 := t11.same (same_new hp2 (.lst [o1, o2]))
  have y12 := Ext.new (K := K) (o := .lst [o1, o2]) hp2
  have f12 : (upd H11 p2 (.lst [o1, o2])) d2 = some (.dK []) := by rw [upd_ne (ne_of_none f11 hp2)]; exact f11
  have g12 : SqL K (upd H11 p2 (.lst [o1, o2])) p2 [o1, o2] := SqL.of upd_same
  have np2 := hS11.ne hp2
  have da := da.mono y12
  have db := db.mono y12
  clear t11 f11 y12
  generalize upd H11 p2 (.lst [o1, o2]) = H12 at *
  walk_at "go"
  refine use_one t12.src g12 np2 (by simp) (by simp) fun H13 u13 s13 hS13 hu13 => ?_
  have t13 := t12.step s13 hS13
  have f13 := s13 _ _ nd2 f12
  have dt13 : Dt K 90 H13 u13 := by
    simp only [List.mem_cons, List.not_mem_nil, or_false] at hu13
    rcases hu13 with rfl | rfl
    · exact da.mono (t12.src.ext s13)
    · exact db.mono (t12.src.ext s13)
  clear t12 f12 s13 da db g12
  walk_at "go"
  refine u_disp1 f13 ?_
  rw [merge1]
  have x14 : Ext K H13 (upd H13 d2 (.dK [(Sum.inl j2, u13)])) := Ext.set f13 trivial
  have t14 : Rt K a H1 b dN ws [] pr j [once, pr] (upd H13 d2 (.dK [(Sum.inl j2, u13)])) := t13.write h1d2 nd2 m51 m52 f13 trivial
  have f14 : (upd H13 d2 (.dK [(Sum.inl j2, u13)])) d2 = some (.dK [(Sum.inl j2, u13)]) := upd_same
  have dt14 := dt13.mono x14
  clear t13 dt13 f13 x14
  generalize upd H13 d2 (.dK [(Sum.inl j2, u13)]) = H14 at *
  walk_at "go"
  refine use_put t14.rp hok hc40 hc40 f14 (m := 90) (fun kv hkv => by rw [show kv = (Sum.inl j2, u13) by simpa using hkv]; exact dt14) fun H15 twice s15 dtt => ?_
  have t15 := (t14.same s15).push dtt (by omega)
  clear t14 dt14 f14 dtt s15
  -- three news
  walk_at "go"
  refine forR (fun i σ H' => ∃ (kvs : List (Key × V)) (o1 o2 : Option V), σ = [some (.ref a), some pr, some (.ref b), some (.ref dN), some (.int jj), some once, some twice, o1, o2, none, none, none, none, none] ∧ Rt K a H1 b dN ws kvs pr j [twice, once, pr] H' ∧ kvs.length ≤ i)
    ⟨[], none, none, rfl, t15, by simp⟩ ?_ ?_
  · rintro i σ H' hi ⟨kvs, o1, o2, rfl, t, lk1⟩
    have hi3 : i < 3 := hi
    walk_at "go"
    refine u_lenL (SqL.of t.eb) ?_
    walk_at "go"
    refine use_take t.src (by omega) (by omega) fun Ha pl sa hSa p0 p1 => ?_
    have ta := t.step sa hSa
    clear t sa
    walk_at "go"
    refine use_take hSa (by omega) (by omega) fun Hb r sb_ hSb q0 q1 => ?_
    have tb := ta.step sb_ hSb
    clear ta sb_
    walk_at "go"
    refine rd_split (fun c => ?_) (fun c => ?_)
    · walk_at "go"
      refine use_odd hSb fun Hc u sc_ hSc dt => ?_
      have tc := tb.step sc_ hSc
      walk_at "go"
      refine u_dput tc.ed (ls (by omega)) ?_
      exact ⟨_, _, _, rfl, tc.put h1dN nbd (dt.le (by decide)), Nat.le_trans (length_putK _ _ _) (by omega)⟩
    · obtain ⟨vj, jx, aj, rj, okj, cj⟩ := pickJ tb.rs hok p0 p1
      walk_at "go"
      refine u_ixL (SqL.of tb.eb) aj ?_
      walk_at "go"
      refine use_mis hSb rj okj (by omega) fun Hc u sc_ hSc dt => ?_
      have tc := tb.step sc_ hSc
      walk_at "go"
      refine u_dput tc.ed (ls (by omega)) ?_
      exact ⟨_, _, _, rfl, tc.put h1dN nbd dt, Nat.le_trans (length_putK _ _ _) (by omega)⟩
  rintro σ HA0 ⟨kvs, o1, o2, rfl, t16, lk1⟩
  clear t15
  -- bent
  walk_at "go"
  refine use_put t16.rp hok hc40 hc40 t16.ed (m := 90) t16.nw fun HA bent sA2 dtb => ?_
  have t17 := (t16.same sA2).push dtb (by omega)
  clear t16 sA2 dtb
  obtain ⟨v0, jx0, a0, rj0, okj0, cj0⟩ := pickJ (i := 0) t17.rs hok (by omega) (by omega)
  have l17 : Lay K a H1 170 [v0, bent, twice, once, pr] HA := (t17.push (Dt.jn rj0 okj0 (Nat.le_refl _)) (by omega)).lay
  have eb17 := t17.eb
  clear t17 rj0
  -- long
  walk_at "go"
  refine ⟨lk rfl, fun a1 ha1 => ?_⟩
  have la1 := l17.tup (xs := []) ha1 (by simp) al0
  have eb1 := same_new ha1 (.tup []) _ _ eb17
  clear l17 eb17
  generalize upd HA a1 (.tup []) = HB1 at *
  walk_at "go"
  refine ⟨lk rfl, fun a2 ha2 => ?_⟩
  have la2 := la1.tup (xs := [pr, pr]) ha2 (by simp) (al1 (.inl (by simp)) (al1 (.inl (by simp)) al0))
  have eb2 := same_new ha2 (.tup [pr, pr]) _ _ eb1
  clear la1 eb1
  generalize upd HB1 a2 (.tup [pr, pr]) = HB2 at *
  walk_at "go"
  refine ⟨lk rfl, fun a3 ha3 => ?_⟩
  have la3 := la2.tup (xs := [.str (Str.ofString "add"), .ref a1, .ref a2]) ha3 (by simp) (al1 (.inr (by decide +kernel)) (al1 (.inl (by simp)) (al1 (.inl (by simp)) al0)))
  have eb3 := same_new ha3 (.tup [.str (Str.ofString "add"), .ref a1, .ref a2]) _ _ eb2
  clear la2 eb2
  generalize upd HB2 a3 (.tup [.str (Str.ofString "add"), .ref a1, .ref a2]) = HB3 at *
  walk_at "go"
  refine ⟨lk rfl, fun a4 ha4 => ?_⟩
  have la4 := la3.tup (xs := []) ha4 (by simp) al0
  have eb4 := same_new ha4 (.tup []) _ _ eb3
  clear la3 eb3
  generalize upd HB3 a4 (.tup []) = HB4 at *
  walk_at "go"
  refine u_ixL (SqL.of eb4) a0 ?_
  walk_at "go"
  refine ⟨lk rfl, fun a5 ha5 => ?_⟩
  have la5 := la4.tup (xs := [pr, v0, bent]) ha5 (by simp) (al1 (.inl (by simp)) (al1 (.inl (by simp)) (al1 (.inl (by simp)) al0)))
  clear la4 eb4
  generalize upd HB4 a5 (.tup [pr, v0, bent]) = HB5 at *
  walk_at "go"
  refine ⟨lk rfl, fun a6 ha6 => ?_⟩
  have la6 := la5.tup (xs := [.str (Str.ofString "cat"), .ref a4, .ref a5]) ha6 (by simp) (al1 (.inr (by decide +kernel)) (al1 (.inl (by simp)) (al1 (.inl (by simp)) al0)))
  clear la5
  generalize upd HB5 a6 (.tup [.str (Str.ofString "cat"), .ref a4, .ref a5]) = HB6 at *
  walk_at "go"
  refine ⟨lk rfl, fun a7 ha7 => ?_⟩
  walk_at "go"
  refine use_one (xs := [pr, .ref a3, .ref a6]) (la6.src.new ha7) (SqL.of upd_same) (la6.src.ne ha7) (by simp) (by simp) fun HC long sC hSC hlong => ?_
  have lC : Lay K a H1 176 [long, bent, twice, once, pr] HC := ((la6.lst (xs := [pr, .ref a3, .ref a6]) ha7).sbx sC hSC).sub fun x hx => by
    simp only [List.mem_cons, List.not_mem_nil, or_false] at hx hlong ⊢
    rcases hx with rfl | rfl | rfl | rfl | rfl
    · rcases hlong with rfl | rfl | rfl <;> simp
    · simp
    · simp
    · simp
    · simp
  clear la6 sC
  walk_at "go"
  refine use_take hSC (by omega) (by omega) fun HD r sD hSD r0 r1 => ?_
  have lD := lC.sbx sD hSD
  clear lC sD
  walk_at "go"
  refine forR (fun i σ H' => ∃ (lg : V) (o1 o2 : Option V), σ = [some (.ref a), some pr, some (.ref b), some (.ref dN), some (.int jj), some once, some twice, o1, o2, some bent, some lg, none, none, none] ∧ Lay K a H1 (176 + 3 * i) [lg, bent, twice, once, pr] H')
    ⟨long, _, _, rfl, lD⟩ ?_ ?_
  · rintro i σ H' hi ⟨lg, o1, o2, rfl, l⟩
    walk_at "go"
    refine ⟨lk rfl, fun b1 hb1 => ?_⟩
    have m1_ := l.tup (xs := []) hb1 (by simp) al0
    generalize upd H' b1 (.tup []) = HE1 at *
    walk_at "go"
    refine ⟨lk rfl, fun b2 hb2 => ?_⟩
    have m2_ := m1_.tup (xs := [lg]) hb2 (by simp) (al1 (.inl (by simp)) al0)
    generalize upd HE1 b2 (.tup [lg]) = HE2 at *
    walk_at "go"
    refine ⟨lk rfl, fun b3 hb3 => ?_⟩
    have m3_ := m2_.tup (xs := [.str (Str.ofString "rev"), .ref b1, .ref b2]) hb3 (by simp) (al1 (.inr (by decide +kernel)) (al1 (.inl (by simp)) (al1 (.inl (by simp)) al0)))
    generalize upd HE2 b3 (.tup [.str (Str.ofString "rev"), .ref b1, .ref b2]) = HE3 at *
    walk_at "go"
    refine ⟨.ref b3, _, _, rfl, (m3_.sub fun x hx => ?_).le (by omega)⟩
    simp only [List.mem_cons, List.not_mem_nil, or_false] at hx ⊢
    rcases hx with rfl | rfl | rfl | rfl | rfl <;> simp
  rintro σ HF ⟨lg, o3, o4, rfl, lF0⟩
  have lF := lF0.le (m := 191) (by omega)
  clear lD lF0
  -- the things
  walk_at "go"
  refine use_odd lF.src fun HG od sG hSG dtG => ?_
  have lG := (lF.sbx sG hSG).push (dtG.le (by decide)) (Nat.le_refl 191)
  clear lF sG dtG
  walk_at "go"
  refine ⟨lk rfl, fun p9 hp9 => ?_⟩
  have lH := lG.lst (xs := [pr, once, twice, bent, lg, od]) hp9
  have e9 : (upd HG p9 (.lst [pr, once, twice, bent, lg, od])) p9 = some (.lst [pr, once, twice, bent, lg, od]) := upd_same
  clear lG
  generalize upd HG p9 (.lst [pr, once, twice, bent, lg, od]) = HH at *
  walk_at "go"
  refine forL (xs := [pr, once, twice, bent, lg, od]) (fun i σ H' => ∃ (o5 o6 o7 : Option V), σ = [some (.ref a), some pr, some (.ref b), some (.ref dN), some (.int jj), some once, some twice, o3, o4, some bent, some lg, o5, o6, o7] ∧ Same HH H')
    ⟨_, _, _, rfl, Same.refl HH⟩ ?_ ?_ ?_
  · rintro i σ H' hi ⟨o5, o6, o7, rfl, s⟩
    exact SqL.of (s _ _ e9)
  · rintro i x σ H' hx ⟨o5, o6, o7, rfl, s⟩
    have mx : x ∈ [pr, once, twice, bent, lg, od] := List.mem_of_getElem? hx
    obtain ⟨d, rd, hd, dd⟩ := lH.dt x (by
      simp only [List.mem_cons, List.not_mem_nil, or_false] at mx ⊢
      rcases mx with rfl | rfl | rfl | rfl | rfl | rfl <;> simp)
    walk_at "go"
    refine use_told (rd.mono (Ext.of_same s) _ _) hd fun H5 ad s5 F5 => ?_
    have s5' := s.trans s5
    walk_at "go"
    refine use_ask (rd.mono (Ext.of_same s5') _ _) hd fun H6 s6 => ?_
    have s6' := s5'.trans s6
    walk_at "go"
    refine use_told (rd.mono (Ext.of_same s6') _ _) hd fun H7 at_ s7 F7 => ?_
    have s7' := s6'.trans s7
    have s57 := s6.trans s7
    have F57 : (walk 42 [d] 0 = none ∧ H7 ad = some (.tup [.str "good", x])) ∨ ∃ f n, walk 42 [d] 0 = some (f, n) ∧ H7 ad = some (.tup [.str (fword f), .int n]) :=
      F5.imp (fun h => ⟨h.1, s57 _ _ h.2⟩) (fun ⟨f, n, e, h⟩ => ⟨f, n, e, s57 _ _ h⟩)
    have r7 := rd.mono (Ext.of_same s7') _ _
    walk_at "go"
    have dl := due_deep (d := d)
    refine g_neD (Rp.dp _ _ (told_rp r7 F7)) (Rp.dp _ _ (told_rp r7 F57)) (dat_lay _ (due_dat hd)) (dat_lay _ (due_dat hd)) (by omega) ?_
    rw [eqv_same _ (due_dat hd), Bool.not_true]
    walk_at "go"
    refine u_isi (Or.inr (Or.inr (Or.inr rfl))) (.bl _) ?_
    rw [show isT "bool" (.bool (isProg d)) = true by cases isProg d <;> decide +kernel]
    walk_at "go"
    refine iteF ?_
    walk_at "go"
    obtain ⟨z, u, hz, ez⟩ := told_first F57
    refine u_ixT hz rfl ?_
    walk_at "go"
    rw [ez]
    rw [show decide (isProg d = isProg d) = true from decide_eq_true rfl]
    refine iteF ?_
    walk_at "go"
    exact ⟨_, _, _, rfl, s7'⟩
  · rintro σ H' ⟨o5, o6, o7, rfl, s⟩
    walk_at "go"
    exact q _ (sA.trans (lH.sb.trans (SB.of_same s)))
end
end Mine

/-! ### Q6 -/
set_option maxHeartbeats 1000000
namespace Mine
open PySem PySem.Spec L2
local macro_rules | `(tactic| walk_at "st") => `(tactic| first
  | ((with_reducible apply rd_var); exact rfl)
  | (with_reducible apply rd_c)
  | (with_reducible apply rd_seq)
  | (with_reducible apply rd_asg)
  | (with_reducible apply rd_gname)
  | (with_reducible apply rd_op)
  | (with_reducible apply rd_cb)
  | (with_reducible apply rd_cons)
  | (with_reducible apply rd_nil)
  | (with_reducible apply rd_if)
  | (with_reducible apply rd_test)
  | (with_reducible apply rd_bl)
  | (with_reducible apply rd_retE)
  | (with_reducible apply rd_ret)
  | (with_reducible apply rd_call)
  | (with_reducible apply rd_tup)
  | (with_reducible apply rd_lst)
  | (with_reducible apply rd_drop)
  | (with_reducible apply rd_next)
  | (with_reducible apply rd_ife)
  | (with_reducible apply rd_gsub)
  | (with_reducible apply rd_par)
  | (with_reducible apply rd_par_end)
  | (with_reducible apply rd_un)
  | (with_reducible apply rd_and)
  | (with_reducible apply rd_or)
  | (with_reducible apply rd_not)
  | (with_reducible apply rd_andV)
  | (with_reducible apply rd_orV)
  | (with_reducible apply rd_notV)
  | (with_reducible apply rd_chain)
  | (with_reducible apply rd_tB)
  | (with_reducible apply rd_brk)
  | (with_reducible apply rd_ct)
  | (with_reducible apply u_add)
  | (with_reducible apply u_sub)
  | (with_reducible apply u_lt)
  | (with_reducible apply u_le)
  | (with_reducible apply u_gt)
  | (with_reducible apply u_ge)
  | (with_reducible apply u_eqI)
  | (with_reducible apply u_eqS)
  | (with_reducible apply u_neI)
  | (with_reducible apply u_int)
  | (with_reducible apply u_intB)
  | (with_reducible apply u_max)
  | (with_reducible apply u_min)
  | (with_reducible apply u_neg)
  | ((with_reducible apply u_mod); focus first | assumption | decide | omega)
  | ((with_reducible apply u_div); focus first | decide | omega | (constructor <;> first | assumption | omega))
  | ((with_reducible apply u_mul); focus first | exact Or.inl (by omega) | exact Or.inr (by omega) | exact Or.inl (by decide) | exact Or.inr (by decide))
  | ((with_reducible apply u_ixL); (focus (first | assumption | exact SqL.of (by assumption) | exact SqL.of upd_same)); exact rfl)
  | ((with_reducible apply u_lenL); focus (first | assumption | exact SqL.of (by assumption) | exact SqL.of upd_same))
  | ((with_reducible apply u_lenT); focus (first | assumption | exact SqT.of (by assumption) | exact SqT.of upd_same))
  | ((with_reducible apply u_setL); (focus (first | assumption | exact upd_same)); exact rfl)
  | (with_reducible apply rd_chain3)
  | (with_reducible apply rd_tru)
  | (with_reducible apply rd_truB)
  | ((with_reducible apply rd_truL); focus (first | assumption | exact SqL.of (by assumption) | exact SqL.of upd_same))
  | (with_reducible apply rd_bm)
  | (with_reducible apply rd_bm0)
  | ((with_reducible apply rd_tyL); focus (first | exact SqL.of (by assumption) | exact SqL.of upd_same))
  | (with_reducible apply u_min3)
  | (with_reducible apply rd_rev)
  | (with_reducible apply rd_iList)
  | (with_reducible apply rd_iTup)
  | (with_reducible apply rd_for)
  | (with_reducible apply rd_rng1)
  | (with_reducible apply rd_rng2)
  | ((with_reducible apply rd_rng1e); (focus omega); (focus omega))
  | ((with_reducible apply rd_rng2e); (focus omega))
  | (with_reducible apply rd_gcons)
  | (with_reducible apply rd_gnil)
  | (with_reducible apply rd_retN)
  | (with_reducible apply g_eqI)
  | (with_reducible apply g_eqS)
  | (with_reducible apply g_neI)
  | (with_reducible apply g_neS)
  | (with_reducible apply g_neB)
  | (with_reducible apply rd_xf)
  | (with_reducible apply rd_raiseE)
  | (with_reducible apply rd_callS)
  | (with_reducible apply u_inD)
  | (with_reducible apply u_notInD)
  | (with_reducible apply u_inS)
  | (with_reducible apply u_notInS)
  | (with_reducible apply rd_iSeq)
  | ((with_reducible apply rd_seqL); (focus first | assumption | exact SqL.of (by assumption) | exact SqL.of upd_same))
  | ((with_reducible apply rd_seqT); (focus first | assumption | exact SqT.of (by assumption) | exact SqT.of upd_same))
  | (with_reducible apply rd_istr)
  | (with_reducible apply rd_istrE)
  | ((with_reducible apply u_isi); (focus (first | exact Or.inl rfl | exact Or.inr (Or.inl rfl) | exact Or.inr (Or.inr (Or.inl rfl)) | exact Or.inr (Or.inr (Or.inr rfl)))); (focus first | assumption | exact Rp.int _ | exact Rp.str _))
  | ((with_reducible apply rd_itL); (focus first | assumption | exact SqL.of (by assumption) | exact SqL.of upd_same))
  | ((with_reducible apply rd_itT); (focus first | assumption | exact SqT.of (by assumption) | exact SqT.of upd_same))
  | (with_reducible apply rd_lc)
  | (with_reducible apply rd_yes)
  | ((with_reducible apply u_pow); (focus (exact ⟨by decide, by decide, by decide⟩)))
  | (with_reducible apply u_mul; focus exact Or.inr cm)
  | (with_reducible apply rd_par3)
  | (with_reducible apply rd_par3_end)
  | ((with_reducible apply rd_aug); exact rfl)
  | (with_reducible apply rd_ipI)
  | (with_reducible apply rd_dnew)
  | (with_reducible apply rd_din)
  | (with_reducible apply rd_dget)
  | (with_reducible apply rd_dput)
  | (with_reducible apply rd_disp1)
  | (with_reducible apply rd_sl)
  | (with_reducible apply rd_part)
  | (with_reducible apply rd_partI)
  | (with_reducible apply rd_nopart)
  | (with_reducible apply iteT)
  | (with_reducible apply iteF))
local macro_rules | `(tactic| walk_at "go") => `(tactic| repeat (walk_at "st"))
local macro_rules | `(tactic| walk_at "sp") => `(tactic| (first | refine rd_split (fun c => ?_) (fun c => ?_) | refine rd_splitN (fun c => ?_) (fun c => ?_) | refine rd_splitB (fun c => ?_) (fun c => ?_)))
local macro_rules | `(tactic| walk_at "nx") => `(tactic| repeat (first | (with_reducible apply iteF) | (with_reducible apply iteT) | (with_reducible apply rd_next)))

section
variable {P : Program} {w : World} {K : PySem.W.Frag} {mg : Str → Option Value} {base : Heap}
theorem seq_on {K : PySem.W.Frag} {H H2 H3 : Hp} {a p : Addr} {xs : List V} (h : SqL K H a xs) (s : Same H H2) (hp : H p = none) (t : SB p H2 H3) : SqL K H3 a xs := by
  rcases h with (h | ⟨o, h⟩) | h
  · exact .inl (.inl (t _ _ (ne_of_none h hp) (s _ _ h)))
  · exact .inl (.inr ⟨o, t _ _ (ne_of_none h hp) (s _ _ h)⟩)
  · exact .inr h
def spLaw (K : PySem.W.Frag) : Sp := fun vs H Q _ => ∃ (a : Addr) (ns : List Int), vs = [.ref a] ∧ SqL K H a (ns.map V.int) ∧ ns.length ≤ 63 ∧ ∀ H', Q (.bl true) H'
abbrev s_law : Stmt := top 54
theorem sc_law : FnScope ["script", "k"] ["script"] (defScope s_law) := ⟨rfl, rfl, rfl, by decide +kernel, rfl, by decide +kernel, by decide +kernel⟩
theorem ok_law {f : Addr} {fd : FuncData} (F : Fun K "law" "law" s_law f fd) (B : Bl mg) (h_law_pool : HasF P w K mg base CX0 1 "_law_pool" ["script", "k"] (spPool K)) (h_law_right : HasF P w K mg base CX0 126 "_law_right" ["source"] spRight) : FnOk P w K mg base CX0 127 f fd ["script"] (spLaw K) := by
  refine F.ok sc_law (fun vs H Q E h => ?_) (fun cdv A outer s_ H vs Q E hr h => ?_)
  · obtain ⟨a, ns, rfl, _⟩ := h
    rfl
  obtain ⟨a, ns, rfl, hL, h63, q⟩ := h
  have hl : (ns.map V.int).length = ns.length := List.length_map _
  refine ⟨_, (pss_cons (ps_for PassesOwn.never rfl (pi_range1 (by rfl) B.range (pa_cons (pe_callB (max2U rfl) (by rfl) B.max (by decide +kernel) (pa_cons pe_int (pa_cons (pe_callB (min2U rfl) (by rfl) B.min (by decide +kernel) (pa_cons (pe_callB (kLen K) (by rfl) B.len (by decide +kernel) (pa_cons (pv 0) pa_nil)) (pa_cons pe_int pa_nil))) pa_nil))) pa_nil)) (pg_name (i := 1) sc_law.nd rfl (by first | exact Or.inl rfl | exact Or.inr rfl)) (pss_one (ps_if (pt_not (pt_val (pe_callH h_law_right (hr.mono (by first | decide | omega)) (by rfl) pass0 (pa_cons (pe_callH h_law_pool (hr.mono (by first | decide | omega)) (by rfl) pass0 (pa_cons (pv 0) (pa_cons (pv 1) pa_nil))) pa_nil)))) (pss_one (ps_ret pe_bl)) pss_nil))) (pss_one (ps_ret pe_bl))), ?_⟩
  refine st0 [some (.ref a), none] rfl ?_
  walk_at "go"
  rw [hl]
  obtain ⟨m, em, m1, m2⟩ : ∃ m : Int, (if (if (3 : Int) < (ns.length : Int) then (3 : Int) else (ns.length : Int)) > 1 then (if (3 : Int) < (ns.length : Int) then (3 : Int) else (ns.length : Int)) else 1) = m ∧ 1 ≤ m ∧ m ≤ 3 := by
    refine ⟨_, rfl, ?_⟩
    split <;> split <;> omega
  rw [em]
  walk_at "go"
  refine forR (fun i σ H' => ∃ (o1 : Option V), σ = [some (.ref a), o1] ∧ SqL K H' a (ns.map V.int)) ⟨_, rfl, hL⟩ ?_ ?_
  · rintro i σ H' hi ⟨o1, rfl, hL'⟩
    walk_at "go"
    refine ⟨a, ns, _, rfl, hL', by omega, by omega, fun H2 p s2 hp hS => ?_⟩
    walk_at "go"
    refine ⟨p, rfl, hS, fun H3 s3 => ?_⟩
    walk_at "go"
    exact ⟨_, rfl, seq_on hL' s2 hp s3⟩
  · rintro σ H' ⟨o1, rfl, hL'⟩
    walk_at "go"
    exact q _
end
end Mine

/-! ### F1 -/
namespace Mine
open PySem PySem.Spec L2
/-! ## facts of the written part, made ready -/
section
variable {K : PySem.W.Frag} {h : Heap} {mg : Str → Option Value}
theorem ownF_mk {x : Str} {st : Stmt} {f : Addr} {oc : Value} {od an : Option Addr} {osl : Array (Option Value)} {kV doc pm cdv ct : Value} (X : K.In h) (G : h.Ns mainGlobals mg) (a : PySem.W.nsIn K mainGlobals x = some (some (.ref f)))
    (l : K.lookup f = some ⟨oc, od, .func (PySem.W.fnOf x x (defArgs st) (defBody st) (defScope st) .none kV doc pm an cdv ct), osl⟩)
    (c : PySem.W.codeIn K cdv x = true) (k : PySem.W.keepIn K (.ref f) = true) : OwnF K mg x st := ⟨f, _, fun_mk (st := st) l c k, PySem.W.mg_of X G a⟩
theorem int_mk {x : Str} {i : Int} {t : Tok} (X : K.In h) (G : h.Ns mainGlobals mg) (a : PySem.W.nsIn K mainGlobals x = some (some (.int i t))) : ∃ t, mg x = some (.int i t) := ⟨t, PySem.W.mg_of X G a⟩
theorem str_mk {x z : Str} {t : Tok} (X : K.In h) (G : h.Ns mainGlobals mg) (a : PySem.W.nsIn K mainGlobals x = some (some (.str z t))) : ∃ t, mg x = some (.str z t) := ⟨t, PySem.W.mg_of X G a⟩
/-! the two tables -/
def entB (e : DictEntry) : Option (Str × Addr) := match e.key, e.val with
  | .str x _, .ref b => some (x, b)
  | _, _ => none
def tabG (L : List (Str × Addr)) (z : Str) : Option Value := (L.find? fun p => p.1 == z).map fun p => .ref p.2
theorem ents_find {z : Str} : ∀ {es : List DictEntry} {L : List (Str × Addr)}, es.map entB = L.map some → (es.find? (·.key.isStr z)).map (·.val) = tabG L z ∧ es.any (·.refKey) = false
  | [], [], _ => ⟨rfl, rfl⟩
  | [], _ :: _, h => by simp at h
  | _ :: _, [], h => by simp at h
  | e :: es, p :: L, h => by
    rw [List.map_cons, List.map_cons] at h
    injection h with h1 h2
    obtain ⟨i1, i2⟩ := ents_find (z := z) h2
    obtain ⟨x, b⟩ := p
    have hk : ∃ t, e.key = .str x t ∧ e.val = .ref b := by
      unfold entB at h1
      split at h1
      · rename_i x' t' b' e1 e2
        cases h1
        exact ⟨t', e1, e2⟩
      · cases h1
    obtain ⟨t, k1, k2⟩ := hk
    have e3 : e.key.isStr z = (x == z) := by rw [k1] <;> rfl
    refine ⟨?_, ?_⟩
    · unfold tabG at i1 ⊢
      rw [List.find?_cons, List.find?_cons, e3]
      cases hx : (x == z) with
      | true => simp only [Option.map_some, k2]
      | false => exact i1
    · rw [List.any_cons, i2, Bool.or_false]
      unfold DictEntry.refKey
      rw [k1] <;> rfl
theorem tab_mk {w : World} {x : Str} {a : Addr} {es : Array DictEntry} {n : Nat} {L : List (Str × Addr)} (X : K.In h) (G : h.Ns mainGlobals mg) (e : PySem.W.nsIn K mainGlobals x = some (some (.ref a))) (l : K.lookup a = some ⟨.type "dict", none, .dict es n, #[]⟩)
    (lit : PySem.W.KeysLit w.params es.toList) (low : (a == sysModules) = false) (hL : es.toList.map entB = L.map some) : Tab w K mg x a (tabG L) := by
  refine ⟨PySem.W.mg_of X G e, ⟨es, n, l, lit, low⟩, fun z => ?_⟩
  obtain ⟨f1, f2⟩ := ents_find (z := z) hL
  unfold PySem.W.nsIn
  rw [l]
  simp only
  rw [← f1]
  cases hf : es.toList.find? (·.key.isStr z) with
  | some e => rfl
  | none => simp only [f2]; rfl
/-! the errors -/
theorem exm_mk {C S : Addr} {b : Bool} (h1 : PySem.W.subIn K (.ref S) (.type "BaseException") = some true) (h2 : PySem.W.isClsIn K S = true) (h3 : PySem.W.typeIn K (.ref S) = some (.type "type")) (h4 : PySem.W.subIn K (.ref C) (.ref S) = some b) :
    PySem.W.exmOne K (.ref C) (.ref S) = some b := by
  have e1 : (PySem.W.subIn K (.ref S) (.type "BaseException") == some true) = true := by rw [h1] <;> rfl
  have e2 : ((PySem.W.clsIn K S).isSome && PySem.W.typeIn K (.ref S) == some (.type "type")) = true := by
    have h2' : (PySem.W.clsIn K S).isSome = true := h2
    rw [h2', h3] <;> rfl
  show (if (PySem.W.subIn K (.ref S) (.type "BaseException") == some true) = true then (if ((PySem.W.clsIn K S).isSome && PySem.W.typeIn K (.ref S) == some (.type "type")) = true then PySem.W.subIn K (.ref C) (.ref S) else none) else none) = some b
  rw [if_pos e1, if_pos e2]
  exact h4
theorem errC_mk {x : Str} {C fI N : Addr} {nm q : Str} {bs bm : List Value} {sn : List Str} {sub : List Value} {ab : Bool} {col : Option Bool} {dd : Option Addr} {m0 m1 m2 m3 m5 : Option Value} (X : K.In h) (G : h.Ns mainGlobals mg)
    (aC : PySem.W.nsIn K mainGlobals x = some (some (.ref C))) (xL : K.lookup C = some (excClassObj nm q C N bs bm true sn sub ab col dd m0 m1 m2 m3 m5 "ValueError.__new__")) (bmB : PySem.HandSPX.refsVE bm = true)
    (sa : PySem.W.findIn K (.ref C) "__setattr__" = some (some (.builtin "object.__setattr__"))) (ga : PySem.W.findIn K (.ref C) "__getattribute__" = some (some (.builtin "BaseException.__getattribute__"))) (gg : PySem.W.findIn K (.ref C) "__getattr__" = some none) (nb : PySem.W.findIn K (.ref C) "what" = some none)
    (iC : PySem.W.findIn K (.ref C) "__init__" = some (some (.ref fI))) (kC : PySem.W.keepIn K (.ref C) = true) (eC : PySem.W.subIn K (.ref C) (.type "BaseException") = some true) (tC : PySem.W.typeIn K (.ref C) = some (.type "type")) (hC : PySem.W.hasDictIn K C = true) : ErrC K mg fI x C :=
  ⟨PySem.W.mg_of X G aC, ⟨⟨nm, q, N, bs, bm, sn, sub, ab, col, dd, m0, m1, m2, m3, m5, xL, bmB⟩, sa, eC, tC, kC⟩, nb, iC, ⟨ga, gg, eC, hC⟩⟩
end
/-! ## the root's __init__ -/
def initSt : Stmt := match top 1 with
  | .ClassDef _ _ _ (s :: _) _ _ _ _ _ _ _ => s
  | s => s
theorem sc_init : FnScope ["self", "what"] ["self", "what"] (defScope initSt) := ⟨rfl, rfl, rfl, by decide +kernel, rfl, by decide +kernel, by decide +kernel⟩
theorem init_mk {P : Program} {w : World} {K : PySem.W.Frag} {mg : Str → Option Value} {base : Heap} {fI : Addr} {fd : FuncData} (F : Fun K "__init__" "Refused.__init__" initSt fI fd) (ht : PySem.W.typeIn K (.ref fI) = some (.type "function")) : InitF P w K mg base fI := by
  refine has_init F sc_init (fun _ _ _ _ _ _ us hl => match us, hl with | [_, _], _ => rfl) ht fun cdv A outer s H E => ?_
  exact pss_one (ps_ost (pv 0) (pv 1))
end Mine

/-! ### F2 -/
namespace Mine
open PySem PySem.Spec L2
section
variable {P : Program} {w : World} {K : PySem.W.Frag} {mg : Str → Option Value} {base : Heap}
/-- the defs of the program -/
structure OwnP (K : PySem.W.Frag) (mg : Str → Option Value) : Prop where
  o1 : OwnF K mg "is_number" s_is_number
  o2 : OwnF K mg "is_between" s_is_between
  o3 : OwnF K mg "are_row_numbers" s_are_row_numbers
  o4 : OwnF K mg "is_word" s_is_word
  o5 : OwnF K mg "tells_row" s_tells_row
  o6 : OwnF K mg "tells_input" s_tells_input
  o7 : OwnF K mg "tells_stretch" s_tells_stretch
  o8 : OwnF K mg "tells_times" s_tells_times
  o9 : OwnF K mg "tells_room" s_tells_room
  o10 : OwnF K mg "told_fits" s_told_fits
  o11 : OwnF K mg "parts_fit" s_parts_fit
  o12 : OwnF K mg "check_count" s_check_count
  o13 : OwnF K mg "check_form" s_check_form
  o14 : OwnF K mg "is_triple" s_is_triple
  o15 : OwnF K mg "check_joint" s_check_joint
  o16 : OwnF K mg "made_program" s_made_program
  o17 : OwnF K mg "is_program" s_is_program
/-- the defs of the law -/
structure OwnL (K : PySem.W.Frag) (mg : Str → Option Value) : Prop where
  o1 : OwnF K mg "_law_pool" s_law_pool
  o2 : OwnF K mg "_law_take" s_law_take
  o3 : OwnF K mg "_law_one" s_law_one
  o4 : OwnF K mg "_law_name" s_law_name
  o5 : OwnF K mg "_law_digit" s_law_digit
  o6 : OwnF K mg "_law_leaf" s_law_leaf
  o7 : OwnF K mg "_law_joint" s_law_joint
  o8 : OwnF K mg "_law_forked" s_law_forked
  o9 : OwnF K mg "_law_catted" s_law_catted
  o10 : OwnF K mg "_law_program" s_law_program
  o11 : OwnF K mg "_law_listed" s_law_listed
  o12 : OwnF K mg "_law_put" s_law_put
  o13 : OwnF K mg "_law_word_fits" s_law_word_fits
  o14 : OwnF K mg "_law_told_fits" s_law_told_fits
  o15 : OwnF K mg "_law_parts_fit" s_law_parts_fit
  o16 : OwnF K mg "_law_due" s_law_due
  o17 : OwnF K mg "_law_told" s_law_told
  o18 : OwnF K mg "_law_odd" s_law_odd
  o19 : OwnF K mg "_law_misjoined" s_law_misjoined
  o20 : OwnF K mg "_law_right" s_law_right
/-- the errors -/
structure Errs (K : PySem.W.Frag) (mg : Str → Option Value) (fI cR : Addr) (c : Ecl) : Prop where
  r : ErrC K mg fI "Refused" cR
  m : ErrC K mg fI "TooMany" c.many
  p : ErrC K mg fI "BadProgram" c.prog
  o : ErrC K mg fI "BadOp" c.op
  q : ErrC K mg fI "BadParts" c.parts
  x : Exm K c cR
theorem HasF.at {k : Nat} {x : Str} {ps : List Str} {sp : Sp} {b : Addr} (h : HasF P w K mg base CX0 k x ps sp) (m : mg x = some (.ref b)) : Held P w K mg base k b sp := by
  obtain ⟨f, m2, hh⟩ := h.held
  have := m2.symm.trans m
  cases this
  exact hh
theorem right_all {aP aT fI cR b0 b1 b2 b3 b4 : Addr} {gP : Str → Option Value} {c : Ecl} {fdI : FuncData} (B : Bl mg) (C : Cst mg) (TP : PartsTab w K mg aP gP)
    (tT : Tab w K mg "TELLS" aT (tabG [("row", b0), ("in", b1), ("part", b2), ("rep", b3), ("hold", b4)])) (n0 : mg "tells_row" = some (.ref b0)) (n1 : mg "tells_input" = some (.ref b1)) (n2 : mg "tells_stretch" = some (.ref b2)) (n3 : mg "tells_times" = some (.ref b3)) (n4 : mg "tells_room" = some (.ref b4))
    (FI : Fun K "__init__" "Refused.__init__" initSt fI fdI) (tI : PySem.W.typeIn K (.ref fI) = some (.type "function")) (E : Errs K mg fI cR c) (OP : OwnP K mg) (OL : OwnL K mg) :
    HasF P w K mg base CX0 126 "_law_right" ["source"] spRight ∧ HasF P w K mg base CX0 1 "_law_pool" ["script", "k"] (spPool K) := by
  have hI : InitF P w K mg base fI := init_mk FI tI
  have p1 := has_is_number (P := P) (w := w) (base := base) OP.o1 B
  have p2 := has_is_between OP.o2 p1
  have p3 := has_are_row_numbers OP.o3 B C p2
  have p4 := has_is_word (P := P) (w := w) (base := base) OP.o4 B C
  have p5 := has_tells_row OP.o5 B C p3
  have p6 := has_tells_input OP.o6 B C p4 p2
  have p7 := has_tells_stretch OP.o7 B C p2
  have p8 := has_tells_times OP.o8 B C p2
  have p9 := has_tells_room OP.o9 B C p2
  have TT : TellsTab P w K mg base aT (tabG [("row", b0), ("in", b1), ("part", b2), ("rep", b3), ("hold", b4)]) := by
    refine ⟨tT, fun z hz => ?_, fun z f hz => ?_⟩
    · unfold asks at hz
      by_cases c1 : z = "row"
      · rw [if_pos c1] at hz; cases hz
      rw [if_neg c1] at hz
      by_cases c2 : z = "in"
      · rw [if_pos c2] at hz; cases hz
      rw [if_neg c2] at hz
      by_cases c3 : z = "part"
      · rw [if_pos c3] at hz; cases hz
      rw [if_neg c3] at hz
      by_cases c4 : z = "rep"
      · rw [if_pos c4] at hz; cases hz
      rw [if_neg c4] at hz
      by_cases c5 : z = "hold"
      · rw [if_pos c5] at hz; cases hz
      unfold tabG
      simp [List.find?_cons, beq_eq_false_iff_ne.mpr (Ne.symm c1), beq_eq_false_iff_ne.mpr (Ne.symm c2), beq_eq_false_iff_ne.mpr (Ne.symm c3), beq_eq_false_iff_ne.mpr (Ne.symm c4), beq_eq_false_iff_ne.mpr (Ne.symm c5)]
    · unfold asks at hz
      by_cases c1 : z = "row"
      · rw [if_pos c1] at hz; cases hz; subst c1
        exact ⟨b0, rfl, p5.at n0⟩
      rw [if_neg c1] at hz
      by_cases c2 : z = "in"
      · rw [if_pos c2] at hz; cases hz; subst c2
        exact ⟨b1, rfl, p6.at n1⟩
      rw [if_neg c2] at hz
      by_cases c3 : z = "part"
      · rw [if_pos c3] at hz; cases hz; subst c3
        exact ⟨b2, rfl, p7.at n2⟩
      rw [if_neg c3] at hz
      by_cases c4 : z = "rep"
      · rw [if_pos c4] at hz; cases hz; subst c4
        exact ⟨b3, rfl, p8.at n3⟩
      rw [if_neg c4] at hz
      by_cases c5 : z = "hold"
      · rw [if_pos c5] at hz; cases hz; subst c5
        exact ⟨b4, rfl, p9.at n4⟩
      rw [if_neg c5] at hz; cases hz
  have p10 := has_told_fits OP.o10 B TP TT
  have p11 := has_parts_fit (P := P) (base := base) OP.o11 TP
  have p12 := has_check_count OP.o12 C hI E.m
  have p13 := has_check_form OP.o13 hI E.o E.q p10 p11
  have p14 := has_is_triple (P := P) (w := w) (base := base) OP.o14 B
  have p15 := has_check_joint (c := c) OP.o15 B hI E.p p12 p14 p13
  have p16 := has_made_program OP.o16 p15
  have p17 := has_is_program OP.o17 E.r E.x p16
  have l1 := has_pool (P := P) (w := w) (base := base) OL.o1 B
  have l2 := has_take (P := P) (w := w) (base := base) OL.o2 B
  have l3 := has_one OL.o3 B l2
  have l4 := has_name OL.o4 B l2
  have l5 := has_digit OL.o5 B l2 l3
  have l6 := has_leaf OL.o6 B l2 l4 l5
  have l7 := has_joint OL.o7 OL.o8 OL.o9 B l2 l3 l6 40
  have l10 := has_program OL.o10 l2 l3 l7
  have l11 := has_listed (P := P) (w := w) (base := base) OL.o11 40
  have l12 := has_put OL.o12 B l11 40
  have l13 := has_law_word_fits (P := P) (w := w) (base := base) OL.o13 B
  have l14 := has_law_told_fits OL.o14 B l13
  have l15 := has_law_parts_fit (P := P) (w := w) (base := base) OL.o15
  have l16 := has_law_due OL.o16 B l14 l15
  have l17 := has_law_told OL.o17 E.r E.m E.p E.o E.q E.x p16
  have l18 := has_odd OL.o18 l3
  have l19 := has_misjoined OL.o19 l2 l3
  exact ⟨has_right OL.o20 B l2 l3 l10 l11 l12 l19 l18 l16 l17 p17, l1⟩
end
theorem fin_mk {P : Program} {w : World} {K : PySem.W.Frag} {h : Heap} {mg : Str → Option Value} {fa f3 : Addr} (X : K.In h) (G : h.Ns mainGlobals mg) (hfa : mg "law" = some (.ref fa)) {oc3 : Value} {od3 an3 : Option Addr} {sl3 : Array (Option Value)} {kV3 dc3 pm3 cd3 ct3 : Value}
    (a3 : PySem.W.nsIn K mainGlobals "law" = some (some (.ref f3))) (l3 : K.lookup f3 = some ⟨oc3, od3, .func (PySem.W.fnOf "law" "law" (defArgs s_law) (defBody s_law) (defScope s_law) .none kV3 dc3 pm3 an3 cd3 ct3), sl3⟩) (c3 : PySem.W.codeIn K cd3 "law" = true) (k3 : PySem.W.keepIn K (.ref f3) = true)
    (B : Bl mg) (R : ∀ base : Heap, HasF P w K mg base CX0 126 "_law_right" ["source"] spRight ∧ HasF P w K mg base CX0 1 "_law_pool" ["script", "k"] (spPool K)) :
    ∃ fd : FuncData, (∀ (s : Shared) (v : Value), BindsTo s fd ⟨[v], []⟩ [("script", v)]) ∧ ∀ base : Heap, K.In base → base.Ns mainGlobals mg → FnOk P w K mg base CX0 127 fa fd ["script"] (spLaw K) := by
  have e := hfa.symm.trans (PySem.W.mg_of X G a3)
  cases e
  exact ⟨_, fun s v => .of_eq rfl, fun base _ _ => ok_law (fun_mk (st := s_law) l3 c3 k3) B (R base).2 (R base).1⟩
end Mine
namespace Mine
open PySem PySem.Spec L2
/-- a class that stands in an except clause -/
structure ClsB (K : PySem.W.Frag) (S : Addr) : Prop where
  b : PySem.W.subIn K (.ref S) (.type "BaseException") = some true
  i : PySem.W.isClsIn K S = true
  t : PySem.W.typeIn K (.ref S) = some (.type "type")
theorem exm_all {K : PySem.W.Frag} {c : Ecl} {cR : Addr} (hR : ClsB K cR) (hM : ClsB K c.many) (hP : ClsB K c.prog) (hO : ClsB K c.op) (hQ : ClsB K c.parts)
    (r1 : PySem.W.subIn K (.ref c.many) (.ref cR) = some true) (r2 : PySem.W.subIn K (.ref c.prog) (.ref cR) = some true) (r3 : PySem.W.subIn K (.ref c.op) (.ref cR) = some true) (r4 : PySem.W.subIn K (.ref c.parts) (.ref cR) = some true)
    (d1 : PySem.W.subIn K (.ref c.many) (.ref c.many) = some true) (d2 : PySem.W.subIn K (.ref c.prog) (.ref c.prog) = some true) (d3 : PySem.W.subIn K (.ref c.op) (.ref c.op) = some true) (d4 : PySem.W.subIn K (.ref c.parts) (.ref c.parts) = some true)
    (e1 : PySem.W.subIn K (.ref c.many) (.ref c.prog) = some false) (e2 : PySem.W.subIn K (.ref c.many) (.ref c.op) = some false) (e3 : PySem.W.subIn K (.ref c.many) (.ref c.parts) = some false)
    (e4 : PySem.W.subIn K (.ref c.prog) (.ref c.many) = some false) (e5 : PySem.W.subIn K (.ref c.prog) (.ref c.op) = some false) (e6 : PySem.W.subIn K (.ref c.prog) (.ref c.parts) = some false)
    (e7 : PySem.W.subIn K (.ref c.op) (.ref c.many) = some false) (e8 : PySem.W.subIn K (.ref c.op) (.ref c.prog) = some false) (e9 : PySem.W.subIn K (.ref c.op) (.ref c.parts) = some false)
    (e10 : PySem.W.subIn K (.ref c.parts) (.ref c.many) = some false) (e11 : PySem.W.subIn K (.ref c.parts) (.ref c.prog) = some false) (e12 : PySem.W.subIn K (.ref c.parts) (.ref c.op) = some false) : Exm K c cR := by
  refine ⟨fun f => ?_, fun f g => ?_⟩
  · cases f
    · exact exm_mk hR.b hR.i hR.t r1
    · exact exm_mk hR.b hR.i hR.t r2
    · exact exm_mk hR.b hR.i hR.t r3
    · exact exm_mk hR.b hR.i hR.t r4
  · cases f <;> cases g
    · exact exm_mk hM.b hM.i hM.t d1
    · exact exm_mk hP.b hP.i hP.t e1
    · exact exm_mk hO.b hO.i hO.t e2
    · exact exm_mk hQ.b hQ.i hQ.t e3
    · exact exm_mk hM.b hM.i hM.t e4
    · exact exm_mk hP.b hP.i hP.t d2
    · exact exm_mk hO.b hO.i hO.t e5
    · exact exm_mk hQ.b hQ.i hQ.t e6
    · exact exm_mk hM.b hM.i hM.t e7
    · exact exm_mk hP.b hP.i hP.t e8
    · exact exm_mk hO.b hO.i hO.t d3
    · exact exm_mk hQ.b hQ.i hQ.t e9
    · exact exm_mk hM.b hM.i hM.t e10
    · exact exm_mk hP.b hP.i hP.t e11
    · exact exm_mk hO.b hO.i hO.t e12
    · exact exm_mk hQ.b hQ.i hQ.t d4
theorem errs_mk {K : PySem.W.Frag} {mg : Str → Option Value} {fI cR cM cP cO cQ : Addr} (r : ErrC K mg fI "Refused" cR) (m : ErrC K mg fI "TooMany" cM) (p : ErrC K mg fI "BadProgram" cP) (o : ErrC K mg fI "BadOp" cO) (q : ErrC K mg fI "BadParts" cQ) (hR : ClsB K cR) (hM : ClsB K cM) (hP : ClsB K cP) (hO : ClsB K cO) (hQ : ClsB K cQ)
    (r1 : PySem.W.subIn K (.ref cM) (.ref cR) = some true) (r2 : PySem.W.subIn K (.ref cP) (.ref cR) = some true) (r3 : PySem.W.subIn K (.ref cO) (.ref cR) = some true) (r4 : PySem.W.subIn K (.ref cQ) (.ref cR) = some true)
    (d1 : PySem.W.subIn K (.ref cM) (.ref cM) = some true) (d2 : PySem.W.subIn K (.ref cP) (.ref cP) = some true) (d3 : PySem.W.subIn K (.ref cO) (.ref cO) = some true) (d4 : PySem.W.subIn K (.ref cQ) (.ref cQ) = some true)
    (e1 : PySem.W.subIn K (.ref cM) (.ref cP) = some false) (e2 : PySem.W.subIn K (.ref cM) (.ref cO) = some false) (e3 : PySem.W.subIn K (.ref cM) (.ref cQ) = some false)
    (e4 : PySem.W.subIn K (.ref cP) (.ref cM) = some false) (e5 : PySem.W.subIn K (.ref cP) (.ref cO) = some false) (e6 : PySem.W.subIn K (.ref cP) (.ref cQ) = some false)
    (e7 : PySem.W.subIn K (.ref cO) (.ref cM) = some false) (e8 : PySem.W.subIn K (.ref cO) (.ref cP) = some false) (e9 : PySem.W.subIn K (.ref cO) (.ref cQ) = some false)
    (e10 : PySem.W.subIn K (.ref cQ) (.ref cM) = some false) (e11 : PySem.W.subIn K (.ref cQ) (.ref cP) = some false) (e12 : PySem.W.subIn K (.ref cQ) (.ref cO) = some false) : Errs K mg fI cR ⟨cM, cP, cO, cQ⟩ :=
  ⟨r, m, p, o, q, exm_all (c := ⟨cM, cP, cO, cQ⟩) hR hM hP hO hQ r1 r2 r3 r4 d1 d2 d3 d4 e1 e2 e3 e4 e5 e6 e7 e8 e9 e10 e11 e12⟩
/-- a pair of numbers of the module -/
theorem pair_mk {K : PySem.W.Frag} {b : Addr} {lo hi : Int} {t1 t2 : Tok} {dd : Option Addr} {n : Nat} {sl : Array (Option Value)} (l : K.lookup b = some ⟨.type "tuple", dd, .seq #[.int lo t1, .int hi t2] n, sl⟩) : ∀ H, SqT K H b [.int lo, .int hi] :=
  fun H => .inr ⟨_, _, _, l, rfl, rfl, by show 2 ≤ sizeLine; decide, .cons ⟨t1, rfl⟩ (.cons ⟨t2, rfl⟩ .nil)⟩
/-- the pairs of the table of the ops -/
inductive Prs (K : PySem.W.Frag) : List (Str × Addr) → List (Str × Int × Int) → Prop
  | nil : Prs K [] []
  | cons {p : Str × Addr} {r : Str × Int × Int} {L : List (Str × Addr)} {M : List (Str × Int × Int)} : (p.1 = r.1 ∧ ∀ H, SqT K H p.2 [.int r.2.1, .int r.2.2]) → Prs K L M → Prs K (p :: L) (r :: M)
def arts : List (Str × Int × Int) := [("row", 0, 0), ("in", 0, 0), ("rev", 1, 1), ("sort", 1, 1), ("sum", 1, 1), ("top", 1, 1), ("add", 2, 2), ("sub", 2, 2), ("mul", 2, 2), ("dot", 2, 2), ("cat", 1, 4), ("outer", 2, 2), ("blend", 2, 2), ("part", 1, 1), ("rep", 1, 1), ("hold", 1, 1)]
theorem prs_find {K : PySem.W.Frag} {z : Str} : ∀ {L : List (Str × Addr)} {M : List (Str × Int × Int)}, Prs K L M → ((M.find? fun p => p.1 == z) = none → tabG L z = none) ∧ ∀ q, (M.find? fun p => p.1 == z) = some q → ∃ b, tabG L z = some (.ref b) ∧ ∀ H, SqT K H b [.int q.2.1, .int q.2.2]
  | _, _, .nil => ⟨fun _ => rfl, fun q h => by simp at h⟩
  | _, _, .cons (p := p) (r := r) h t => by
    obtain ⟨i1, i2⟩ := prs_find (z := z) t
    unfold tabG at i1 i2 ⊢
    rw [List.find?_cons, List.find?_cons, h.1]
    cases hx : (r.1 == z) with
    | true => exact ⟨fun h => by simp at h, fun q e => by
        have e' : r = q := by simpa using e
        subst e'
        exact ⟨p.2, rfl, h.2⟩⟩
    | false => exact ⟨i1, i2⟩
theorem arity_arts {z : Str} : arity z = (arts.find? fun p => p.1 == z).map (·.2) := by
  have k : ∀ y ∈ arts.map (·.1), arity y = (arts.find? fun p => p.1 == y).map (·.2) := by decide +kernel
  by_cases c : z ∈ arts.map (·.1)
  · exact k z c
  have e1 : (arts.find? fun p => p.1 == z) = none := by
    rw [List.find?_eq_none]
    intro x hx hz
    have hz' : x.1 = z := by simpa using hz
    exact c (hz' ▸ List.mem_map_of_mem hx)
  rw [e1]
  have k0 : ∀ y ∈ op0, y ∈ arts.map (·.1) := by decide +kernel
  have k1 : ∀ y ∈ op1, y ∈ arts.map (·.1) := by decide +kernel
  have k2 : ∀ y ∈ op2, y ∈ arts.map (·.1) := by decide +kernel
  have k3 : ("cat" : Str) ∈ arts.map (·.1) := by decide +kernel
  unfold arity
  rw [if_neg (fun h => c (k0 z h)), if_neg (fun h => c (k1 z h)), if_neg (fun h => c (k2 z h)), if_neg (fun (h : z = "cat") => c (by rw [h]; exact k3))]
  rfl
theorem parts_tab {w : World} {K : PySem.W.Frag} {mg : Str → Option Value} {a : Addr} {L : List (Str × Addr)} (T : Tab w K mg "PARTS" a (tabG L)) (h : Prs K L arts) : PartsTab w K mg a (tabG L) := by
  refine ⟨T, fun z hz => ?_, fun z lo hi hz => ?_⟩
  · obtain ⟨i1, _⟩ := prs_find (z := z) h
    rw [arity_arts] at hz
    exact i1 (by simpa using hz)
  · obtain ⟨_, i2⟩ := prs_find (z := z) h
    rw [arity_arts, Option.map_eq_some_iff] at hz
    obtain ⟨q, e1, e2⟩ := hz
    obtain ⟨b, e3, e4⟩ := i2 q e1
    rw [e2] at e4
    exact ⟨b, e3, e4⟩
end Mine

/-! ### E1 -/
open PySem PySem.W PyProof.Rows
set_option maxRecDepth 100000 in
set_option maxHeartbeats 0 in
theorem PySem.Challenge.cw_hillrooms_k00_programs_and_their_errors_holds : PySem.Challenge.rw_hillrooms_k00_programs_and_their_errors.Holds := by
  w_on; o_law; k_head; (case hw => w_witness2)
  k_fill
  refine L2.walk_of (l := PySem.Challenge.rw_hillrooms_k00_programs_and_their_errors) (n := 63) (k := 127) (x := "script") (CX := fun _ => L2.CX0) (sp := fun w => Mine.spLaw _) rfl (by decide) rfl ⟨rfl, by decide, by decide⟩ (fun w h Y => PySem.W.kIn_of Y) ?F (fun _ _ a ns hl _ hS => ⟨a, ns, rfl, hS, hl, fun _ => rfl⟩) (fun _ _ _ _ _ z => z)
  case F =>
    intro w mg fa h KX G hmg
    have B : Mine.Bl mg := by
      refine' ⟨PySem.W.mg_none_of KX G ?z0, PySem.W.mg_none_of KX G ?z1, PySem.W.mg_none_of KX G ?z2, PySem.W.mg_none_of KX G ?z3, PySem.W.mg_none_of KX G ?z4, PySem.W.mg_none_of KX G ?z5, PySem.W.mg_none_of KX G ?z6, PySem.W.mg_none_of KX G ?z7, PySem.W.mg_none_of KX G ?z8, PySem.W.mg_none_of KX G ?z9⟩
      (case z0 => k_is); (case z1 => k_is); (case z2 => k_is); (case z3 => k_is); (case z4 => k_is); (case z5 => k_is); (case z6 => k_is); (case z7 => k_is); (case z8 => k_is); (case z9 => k_is)
    have C : Mine.Cst mg := by
      refine' ⟨Mine.int_mk KX G ?z0, Mine.int_mk KX G ?z1, Mine.int_mk KX G ?z2, Mine.int_mk KX G ?z3, Mine.str_mk KX G ?z4, Mine.int_mk KX G ?z5⟩
      (case z0 => k_is); (case z1 => k_is); (case z2 => k_is); (case z3 => k_is); (case z4 => k_is); (case z5 => k_is)
    have OP : Mine.OwnP (L2.KOf KX) mg := by
      dsimp only [L2.KOf]
      refine' ⟨Mine.ownF_mk KX G ?a0 ?l0 ?c0 ?k0, Mine.ownF_mk KX G ?a1 ?l1 ?c1 ?k1, Mine.ownF_mk KX G ?a2 ?l2 ?c2 ?k2, Mine.ownF_mk KX G ?a3 ?l3 ?c3 ?k3, Mine.ownF_mk KX G ?a4 ?l4 ?c4 ?k4, Mine.ownF_mk KX G ?a5 ?l5 ?c5 ?k5, Mine.ownF_mk KX G ?a6 ?l6 ?c6 ?k6, Mine.ownF_mk KX G ?a7 ?l7 ?c7 ?k7, Mine.ownF_mk KX G ?a8 ?l8 ?c8 ?k8, Mine.ownF_mk KX G ?a9 ?l9 ?c9 ?k9, Mine.ownF_mk KX G ?a10 ?l10 ?c10 ?k10, Mine.ownF_mk KX G ?a11 ?l11 ?c11 ?k11, Mine.ownF_mk KX G ?a12 ?l12 ?c12 ?k12, Mine.ownF_mk KX G ?a13 ?l13 ?c13 ?k13, Mine.ownF_mk KX G ?a14 ?l14 ?c14 ?k14, Mine.ownF_mk KX G ?a15 ?l15 ?c15 ?k15, Mine.ownF_mk KX G ?a16 ?l16 ?c16 ?k16⟩
      (case a0 => k_is); (case l0 => k_is); (case c0 => k_is); (case k0 => k_is)
      (case a1 => k_is); (case l1 => k_is); (case c1 => k_is); (case k1 => k_is)
      (case a2 => k_is); (case l2 => k_is); (case c2 => k_is); (case k2 => k_is)
      (case a3 => k_is); (case l3 => k_is); (case c3 => k_is); (case k3 => k_is)
      (case a4 => k_is); (case l4 => k_is); (case c4 => k_is); (case k4 => k_is)
      (case a5 => k_is); (case l5 => k_is); (case c5 => k_is); (case k5 => k_is)
      (case a6 => k_is); (case l6 => k_is); (case c6 => k_is); (case k6 => k_is)
      (case a7 => k_is); (case l7 => k_is); (case c7 => k_is); (case k7 => k_is)
      (case a8 => k_is); (case l8 => k_is); (case c8 => k_is); (case k8 => k_is)
      (case a9 => k_is); (case l9 => k_is); (case c9 => k_is); (case k9 => k_is)
      (case a10 => k_is); (case l10 => k_is); (case c10 => k_is); (case k10 => k_is)
      (case a11 => k_is); (case l11 => k_is); (case c11 => k_is); (case k11 => k_is)
      (case a12 => k_is); (case l12 => k_is); (case c12 => k_is); (case k12 => k_is)
      (case a13 => k_is); (case l13 => k_is); (case c13 => k_is); (case k13 => k_is)
      (case a14 => k_is); (case l14 => k_is); (case c14 => k_is); (case k14 => k_is)
      (case a15 => k_is); (case l15 => k_is); (case c15 => k_is); (case k15 => k_is)
      (case a16 => k_is); (case l16 => k_is); (case c16 => k_is); (case k16 => k_is)
    have OL : Mine.OwnL (L2.KOf KX) mg := by
      dsimp only [L2.KOf]
      refine' ⟨Mine.ownF_mk KX G ?a0 ?l0 ?c0 ?k0, Mine.ownF_mk KX G ?a1 ?l1 ?c1 ?k1, Mine.ownF_mk KX G ?a2 ?l2 ?c2 ?k2, Mine.ownF_mk KX G ?a3 ?l3 ?c3 ?k3, Mine.ownF_mk KX G ?a4 ?l4 ?c4 ?k4, Mine.ownF_mk KX G ?a5 ?l5 ?c5 ?k5, Mine.ownF_mk KX G ?a6 ?l6 ?c6 ?k6, Mine.ownF_mk KX G ?a7 ?l7 ?c7 ?k7, Mine.ownF_mk KX G ?a8 ?l8 ?c8 ?k8, Mine.ownF_mk KX G ?a9 ?l9 ?c9 ?k9, Mine.ownF_mk KX G ?a10 ?l10 ?c10 ?k10, Mine.ownF_mk KX G ?a11 ?l11 ?c11 ?k11, Mine.ownF_mk KX G ?a12 ?l12 ?c12 ?k12, Mine.ownF_mk KX G ?a13 ?l13 ?c13 ?k13, Mine.ownF_mk KX G ?a14 ?l14 ?c14 ?k14, Mine.ownF_mk KX G ?a15 ?l15 ?c15 ?k15, Mine.ownF_mk KX G ?a16 ?l16 ?c16 ?k16, Mine.ownF_mk KX G ?a17 ?l17 ?c17 ?k17, Mine.ownF_mk KX G ?a18 ?l18 ?c18 ?k18, Mine.ownF_mk KX G ?a19 ?l19 ?c19 ?k19⟩
      (case a0 => k_is); (case l0 => k_is); (case c0 => k_is); (case k0 => k_is)
      (case a1 => k_is); (case l1 => k_is); (case c1 => k_is); (case k1 => k_is)
      (case a2 => k_is); (case l2 => k_is); (case c2 => k_is); (case k2 => k_is)
      (case a3 => k_is); (case l3 => k_is); (case c3 => k_is); (case k3 => k_is)
      (case a4 => k_is); (case l4 => k_is); (case c4 => k_is); (case k4 => k_is)
      (case a5 => k_is); (case l5 => k_is); (case c5 => k_is); (case k5 => k_is)
      (case a6 => k_is); (case l6 => k_is); (case c6 => k_is); (case k6 => k_is)
      (case a7 => k_is); (case l7 => k_is); (case c7 => k_is); (case k7 => k_is)
      (case a8 => k_is); (case l8 => k_is); (case c8 => k_is); (case k8 => k_is)
      (case a9 => k_is); (case l9 => k_is); (case c9 => k_is); (case k9 => k_is)
      (case a10 => k_is); (case l10 => k_is); (case c10 => k_is); (case k10 => k_is)
      (case a11 => k_is); (case l11 => k_is); (case c11 => k_is); (case k11 => k_is)
      (case a12 => k_is); (case l12 => k_is); (case c12 => k_is); (case k12 => k_is)
      (case a13 => k_is); (case l13 => k_is); (case c13 => k_is); (case k13 => k_is)
      (case a14 => k_is); (case l14 => k_is); (case c14 => k_is); (case k14 => k_is)
      (case a15 => k_is); (case l15 => k_is); (case c15 => k_is); (case k15 => k_is)
      (case a16 => k_is); (case l16 => k_is); (case c16 => k_is); (case k16 => k_is)
      (case a17 => k_is); (case l17 => k_is); (case c17 => k_is); (case k17 => k_is)
      (case a18 => k_is); (case l18 => k_is); (case c18 => k_is); (case k18 => k_is)
      (case a19 => k_is); (case l19 => k_is); (case c19 => k_is); (case k19 => k_is)
    obtain ⟨fI, cR, c, E, fdI, FI, tI⟩ : ∃ (fI cR : Addr) (c : Mine.Ecl), Mine.Errs (L2.KOf KX) mg fI cR c ∧ ∃ fdI : FuncData, L2.Fun (L2.KOf KX) "__init__" "Refused.__init__" Mine.initSt fI fdI ∧ PySem.W.typeIn (L2.KOf KX) (.ref fI) = some (.type "function") := by
      dsimp only [L2.KOf]
      refine' ⟨_, _, _, Mine.errs_mk (Mine.errC_mk KX G ?aC0 ?xL0 ?bm0 ?sa0 ?ga0 ?gg0 ?nb0 ?iC0 ?kC0 ?eC0 ?tC0 ?hC0) (Mine.errC_mk KX G ?aC1 ?xL1 ?bm1 ?sa1 ?ga1 ?gg1 ?nb1 ?iC1 ?kC1 ?eC1 ?tC1 ?hC1) (Mine.errC_mk KX G ?aC2 ?xL2 ?bm2 ?sa2 ?ga2 ?gg2 ?nb2 ?iC2 ?kC2 ?eC2 ?tC2 ?hC2) (Mine.errC_mk KX G ?aC3 ?xL3 ?bm3 ?sa3 ?ga3 ?gg3 ?nb3 ?iC3 ?kC3 ?eC3 ?tC3 ?hC3) (Mine.errC_mk KX G ?aC4 ?xL4 ?bm4 ?sa4 ?ga4 ?gg4 ?nb4 ?iC4 ?kC4 ?eC4 ?tC4 ?hC4) ⟨?b0, ?i0, ?t0⟩ ⟨?b1, ?i1, ?t1⟩ ⟨?b2, ?i2, ?t2⟩ ⟨?b3, ?i3, ?t3⟩ ⟨?b4, ?i4, ?t4⟩ ?s0 ?s1 ?s2 ?s3 ?s4 ?s5 ?s6 ?s7 ?s8 ?s9 ?s10 ?s11 ?s12 ?s13 ?s14 ?s15 ?s16 ?s17 ?s18 ?s19, _, L2.fun_mk (st := Mine.initSt) ?lI ?cI ?kI, ?tI⟩
      (case aC0 => k_is); (case xL0 => k_is); (case bm0 => decide +kernel); (case sa0 => k_is); (case ga0 => k_is); (case gg0 => k_is); (case nb0 => k_is); (case iC0 => k_is); (case kC0 => k_is); (case eC0 => k_is); (case tC0 => k_is); (case hC0 => k_is); (case b0 => k_is); (case i0 => k_is); (case t0 => k_is)
      (case aC1 => k_is); (case xL1 => k_is); (case bm1 => decide +kernel); (case sa1 => k_is); (case ga1 => k_is); (case gg1 => k_is); (case nb1 => k_is); (case iC1 => k_is); (case kC1 => k_is); (case eC1 => k_is); (case tC1 => k_is); (case hC1 => k_is); (case b1 => k_is); (case i1 => k_is); (case t1 => k_is)
      (case aC2 => k_is); (case xL2 => k_is); (case bm2 => decide +kernel); (case sa2 => k_is); (case ga2 => k_is); (case gg2 => k_is); (case nb2 => k_is); (case iC2 => k_is); (case kC2 => k_is); (case eC2 => k_is); (case tC2 => k_is); (case hC2 => k_is); (case b2 => k_is); (case i2 => k_is); (case t2 => k_is)
      (case aC3 => k_is); (case xL3 => k_is); (case bm3 => decide +kernel); (case sa3 => k_is); (case ga3 => k_is); (case gg3 => k_is); (case nb3 => k_is); (case iC3 => k_is); (case kC3 => k_is); (case eC3 => k_is); (case tC3 => k_is); (case hC3 => k_is); (case b3 => k_is); (case i3 => k_is); (case t3 => k_is)
      (case aC4 => k_is); (case xL4 => k_is); (case bm4 => decide +kernel); (case sa4 => k_is); (case ga4 => k_is); (case gg4 => k_is); (case nb4 => k_is); (case iC4 => k_is); (case kC4 => k_is); (case eC4 => k_is); (case tC4 => k_is); (case hC4 => k_is); (case b4 => k_is); (case i4 => k_is); (case t4 => k_is)
      (case s0 => first | k_is | rfl | decide +kernel); (case s1 => first | k_is | rfl | decide +kernel); (case s2 => first | k_is | rfl | decide +kernel); (case s3 => first | k_is | rfl | decide +kernel); (case s4 => first | k_is | rfl | decide +kernel); (case s5 => first | k_is | rfl | decide +kernel); (case s6 => first | k_is | rfl | decide +kernel); (case s7 => first | k_is | rfl | decide +kernel); (case s8 => first | k_is | rfl | decide +kernel); (case s9 => first | k_is | rfl | decide +kernel); (case s10 => first | k_is | rfl | decide +kernel); (case s11 => first | k_is | rfl | decide +kernel); (case s12 => first | k_is | rfl | decide +kernel); (case s13 => first | k_is | rfl | decide +kernel); (case s14 => first | k_is | rfl | decide +kernel); (case s15 => first | k_is | rfl | decide +kernel); (case s16 => first | k_is | rfl | decide +kernel); (case s17 => first | k_is | rfl | decide +kernel); (case s18 => first | k_is | rfl | decide +kernel); (case s19 => first | k_is | rfl | decide +kernel)
      (case lI => k_is); (case cI => k_is); (case kI => k_is); (case tI => k_is)
    obtain ⟨aT, b0, b1, b2, b3, b4, tT, n0, n1, n2, n3, n4⟩ : ∃ (aT b0 b1 b2 b3 b4 : Addr), Mine.Tab w (L2.KOf KX) mg "TELLS" aT (Mine.tabG [("row", b0), ("in", b1), ("part", b2), ("rep", b3), ("hold", b4)]) ∧ mg "tells_row" = some (.ref b0) ∧ mg "tells_input" = some (.ref b1) ∧ mg "tells_stretch" = some (.ref b2) ∧ mg "tells_times" = some (.ref b3) ∧ mg "tells_room" = some (.ref b4) := by
      dsimp only [L2.KOf]
      refine' ⟨_, _, _, _, _, _, Mine.tab_mk KX G ?e ?l ?k ?lo ?L, PySem.W.mg_of KX G ?n0, PySem.W.mg_of KX G ?n1, PySem.W.mg_of KX G ?n2, PySem.W.mg_of KX G ?n3, PySem.W.mg_of KX G ?n4⟩
      (case e => k_is); (case l => k_is); (case k => k_keys); (case lo => decide); (case L => rfl)
      (case n0 => k_is); (case n1 => k_is); (case n2 => k_is); (case n3 => k_is); (case n4 => k_is)
    obtain ⟨aP, p0, p1, p2, p3, p4, p5, p6, p7, p8, p9, p10, p11, p12, p13, p14, p15, tP, hP⟩ : ∃ (aP p0 p1 p2 p3 p4 p5 p6 p7 p8 p9 p10 p11 p12 p13 p14 p15 : Addr), Mine.Tab w (L2.KOf KX) mg "PARTS" aP (Mine.tabG [("row", p0), ("in", p1), ("rev", p2), ("sort", p3), ("sum", p4), ("top", p5), ("add", p6), ("sub", p7), ("mul", p8), ("dot", p9), ("cat", p10), ("outer", p11), ("blend", p12), ("part", p13), ("rep", p14), ("hold", p15)]) ∧ Mine.Prs (L2.KOf KX) [("row", p0), ("in", p1), ("rev", p2), ("sort", p3), ("sum", p4), ("top", p5), ("add", p6), ("sub", p7), ("mul", p8), ("dot", p9), ("cat", p10), ("outer", p11), ("blend", p12), ("part", p13), ("rep", p14), ("hold", p15)] Mine.arts := by
      dsimp only [L2.KOf]
      refine' ⟨_, _, _, _, _, _, _, _, _, _, _, _, _, _, _, _, _, Mine.tab_mk KX G ?e ?l ?k ?lo ?L, (.cons ⟨rfl, Mine.pair_mk ?p0⟩ (.cons ⟨rfl, Mine.pair_mk ?p1⟩ (.cons ⟨rfl, Mine.pair_mk ?p2⟩ (.cons ⟨rfl, Mine.pair_mk ?p3⟩ (.cons ⟨rfl, Mine.pair_mk ?p4⟩ (.cons ⟨rfl, Mine.pair_mk ?p5⟩ (.cons ⟨rfl, Mine.pair_mk ?p6⟩ (.cons ⟨rfl, Mine.pair_mk ?p7⟩ (.cons ⟨rfl, Mine.pair_mk ?p8⟩ (.cons ⟨rfl, Mine.pair_mk ?p9⟩ (.cons ⟨rfl, Mine.pair_mk ?p10⟩ (.cons ⟨rfl, Mine.pair_mk ?p11⟩ (.cons ⟨rfl, Mine.pair_mk ?p12⟩ (.cons ⟨rfl, Mine.pair_mk ?p13⟩ (.cons ⟨rfl, Mine.pair_mk ?p14⟩ (.cons ⟨rfl, Mine.pair_mk ?p15⟩ .nil))))))))))))))))⟩
      (case e => k_is); (case l => k_is); (case k => k_keys); (case lo => decide); (case L => rfl)
      (case p0 => k_is); (case p1 => k_is); (case p2 => k_is); (case p3 => k_is); (case p4 => k_is); (case p5 => k_is); (case p6 => k_is); (case p7 => k_is); (case p8 => k_is); (case p9 => k_is); (case p10 => k_is); (case p11 => k_is); (case p12 => k_is); (case p13 => k_is); (case p14 => k_is); (case p15 => k_is)
    refine' Mine.fin_mk KX G hmg ?a ?l ?c ?k B (fun base => Mine.right_all B C (Mine.parts_tab tP hP) tT n0 n1 n2 n3 n4 FI tI E OP OL)
    (case a => k_is); (case l => k_is); (case c => k_is); (case k => k_is)
