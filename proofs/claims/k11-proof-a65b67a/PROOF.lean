import PyProof.Rows.All
import HandS.ForMost
import HandS.TupAny
import HandS.Flow
import HandS.IsInst
import HandS.Wide
import HandS.Walk
import HandS.Zip
import HandS.Deep
import KE.LtData
import HandS.ListItems
import HandS.DictComp
import HandS.Words
import HandS.Text
import PySem.Challenge.RW_unlikekeys_k11_texts_of_runs_and_histori
import HandS.Star
import KE.SortData
import HandS.Sort
import KE.GoesEnum
import HandS.Strs
import HandS.SetKeys
import HandS.OwnEq
import HandS.Style
import HandS.Ends
import HandS.FStr
import HandS.SetTxt0
import HandS.SetFor
import HandS.Set
import HandS.NoneIn
import HandS.RaiseMore
import HandS.CallLocal
set_option Elab.async false
set_option linter.all false
set_option maxRecDepth 100000
/-! Values without a heap over the hand layer: W, the cells that change (M), judgements by what is wanted behind. -/
namespace Dv
open PySem L2

/-- a value: plain data with tuples, and references (lists, dicts, instances, the script) -/
inductive W where
  | non | bl (b : Bool) | int (i : Int) | str (x : Str) | tup (ws : List W) | m (a : Addr)
/-- what a cell holds -/
inductive C where
  | lst (ws : List W)
  | dic (kvs : List (Key × W))
  | ins (Cl : Addr) (fs : List (Str × W))
abbrev Mu := Addr → Option C
def setM (mu : Mu) (a : Addr) (c : C) : Mu := fun b => if b = a then some c else mu b
theorem setM_same {mu : Mu} {a : Addr} {c : C} : setM mu a c a = some c := by unfold setM; rw [if_pos rfl]
theorem setM_ne {mu : Mu} {a b : Addr} {c : C} (h : b ≠ a) : setM mu a c b = mu b := by unfold setM; rw [if_neg h]
theorem setM_set {mu : Mu} {a : Addr} {c d : C} : setM (setM mu a c) a d = setM mu a d := by
  funext b; unfold setM; split <;> rfl

section
variable (K : PySem.W.Frag) (H : Hp)
mutual
def Den : W → V → Prop
  | .non, v => v = .non
  | .bl b, v => v = .bl b
  | .int i, v => v = .int i
  | .str x, v => v = .str x
  | .m a, v => v = .ref a
  | .tup ws, v => ∃ a xs, v = .ref a ∧ SqT K H a xs ∧ DenAll ws xs
def DenAll : List W → List V → Prop
  | [], xs => xs = []
  | w :: ws, xs => ∃ v vs, xs = v :: vs ∧ Den w v ∧ DenAll ws vs
end
def CellOk (a : Addr) : C → Prop
  | .lst ws => ∃ xs, H a = some (.lst xs) ∧ DenAll K H ws xs
  | .dic kvs => ∃ vs, H a = some (.dK vs) ∧ kvs.map (·.1) = vs.map (·.1) ∧ DenAll K H (kvs.map (·.2)) (vs.map (·.2))
  | .ins Cl fs => ∃ dx vs, H a = some (.ins Cl dx vs) ∧ fs.map (·.1) = vs.map (·.1) ∧ DenAll K H (fs.map (·.2)) (vs.map (·.2))
def HM (mu : Mu) : Prop := ∀ a c, mu a = some c → CellOk K H a c
def DenG (G : List (Option W)) (σ : St) : Prop := G.length = σ.length ∧ ∀ (i : Nat) (w : W), G[i]? = some (some w) → ∃ v, σ[i]? = some (some v) ∧ Den K H w v
end

section
variable {K : PySem.W.Frag} {H H' H'' : Hp} {mu mu' mu'' : Mu}
mutual
theorem Den.mono (h : ∀ a xs, SqT K H a xs → SqT K H' a xs) : ∀ (w : W) {v : V}, Den K H w v → Den K H' w v
  | .non, _, e => e
  | .bl _, _, e => e
  | .int _, _, e => e
  | .str _, _, e => e
  | .m _, _, e => e
  | .tup ws, _, ⟨a, xs, e, s, d⟩ => ⟨a, xs, e, h a xs s, DenAll.mono h ws d⟩
theorem DenAll.mono (h : ∀ a xs, SqT K H a xs → SqT K H' a xs) : ∀ (ws : List W) {vs : List V}, DenAll K H ws vs → DenAll K H' ws vs
  | [], _, e => e
  | w :: ws, _, ⟨v, vs, e, d, r⟩ => ⟨v, vs, e, Den.mono h w d, DenAll.mono h ws r⟩
end
theorem DenAll.length : ∀ {ws : List W} {vs : List V}, DenAll K H ws vs → ws.length = vs.length
  | [], _, e => by have e : _ = _ := e; subst e; rfl
  | w :: ws, _, ⟨v, vs, e, d, r⟩ => by subst e; simp [DenAll.length r]
theorem DenAll.get : ∀ {ws : List W} {vs : List V} {i : Nat} {v : V}, DenAll K H ws vs → vs[i]? = some v → ∃ w, ws[i]? = some w ∧ Den K H w v
  | [], _, i, v, e, h => by have e : _ = _ := e; subst e; simp at h
  | w :: ws, _, 0, v, ⟨v', vs, e, d, r⟩, h => by subst e; simp at h; subst h; exact ⟨w, rfl, d⟩
  | w :: ws, _, i + 1, v, ⟨v', vs, e, d, r⟩, h => by
    subst e
    obtain ⟨w', h1, h2⟩ := DenAll.get (i := i) (v := v) r (by simpa using h)
    exact ⟨w', by simpa using h1, h2⟩
theorem DenAll.get' : ∀ {ws : List W} {vs : List V} {i : Nat} {w : W}, DenAll K H ws vs → ws[i]? = some w → ∃ v, vs[i]? = some v ∧ Den K H w v
  | [], _, i, v, e, h => by simp at h
  | w :: ws, _, 0, v, ⟨v', vs, e, d, r⟩, h => by subst e; simp at h; subst h; exact ⟨v', rfl, d⟩
  | w :: ws, _, i + 1, v, ⟨v', vs, e, d, r⟩, h => by
    subst e
    obtain ⟨w', h1, h2⟩ := DenAll.get' (i := i) (w := v) r (by simpa using h)
    exact ⟨w', by simpa using h1, h2⟩
theorem DenAll.append : ∀ {ws ws' : List W} {vs vs' : List V}, DenAll K H ws vs → DenAll K H ws' vs' → DenAll K H (ws ++ ws') (vs ++ vs')
  | [], _, _, _, e, r => by have e : _ = _ := e; subst e; exact r
  | w :: ws, _, _, _, ⟨v, vs, e, d, r⟩, r' => by subst e; exact ⟨v, _, rfl, d, DenAll.append r r'⟩
theorem DenAll.take : ∀ {ws : List W} {vs : List V} (n : Nat), DenAll K H ws vs → DenAll K H (ws.take n) (vs.take n)
  | _, _, 0, _ => by simp [DenAll]
  | [], _, n + 1, e => by have e : _ = _ := e; subst e; simp [DenAll]
  | w :: ws, _, n + 1, ⟨v, vs, e, d, r⟩ => by subst e; exact ⟨v, _, rfl, d, DenAll.take n r⟩
theorem DenAll.drop : ∀ {ws : List W} {vs : List V} (n : Nat), DenAll K H ws vs → DenAll K H (ws.drop n) (vs.drop n)
  | _, _, 0, r => r
  | [], _, n + 1, e => by have e : _ = _ := e; subst e; simp [DenAll]
  | w :: ws, _, n + 1, ⟨v, vs, e, d, r⟩ => by subst e; exact DenAll.drop n r
theorem DenAll.reverse : ∀ {ws : List W} {vs : List V}, DenAll K H ws vs → DenAll K H ws.reverse vs.reverse
  | [], _, e => by have e : _ = _ := e; subst e; rfl
  | w :: ws, _, ⟨v, vs, e, d, r⟩ => by
    subst e
    rw [List.reverse_cons, List.reverse_cons]
    exact DenAll.append (DenAll.reverse r) ⟨v, [], rfl, d, rfl⟩
theorem DenAll.set : ∀ {ws : List W} {vs : List V} (i : Nat) {w : W} {v : V}, DenAll K H ws vs → Den K H w v → DenAll K H (ws.set i w) (vs.set i v)
  | [], _, i, _, _, e, _ => by have e : _ = _ := e; subst e; simp [DenAll]
  | w :: ws, _, 0, _, _, ⟨v, vs, e, d, r⟩, q => by subst e; exact ⟨_, _, rfl, q, r⟩
  | w :: ws, _, i + 1, _, _, ⟨v, vs, e, d, r⟩, q => by subst e; exact ⟨_, _, rfl, d, DenAll.set i r q⟩
theorem DenAll.nil_iff {vs : List V} (d : DenAll K H [] vs) : vs = [] := d

structure Chg (mu : Mu) (H : Hp) (mu' : Mu) (H' : Hp) : Prop where
  keep : ∀ b o, H b = some o → mu b = none → H' b = some o
  old : ∀ b c, mu b = some c → ∃ c', mu' b = some c'
  new : ∀ b o, H b = some o → mu b = none → mu' b = none
theorem Chg.refl : Chg mu H mu H := ⟨fun _ _ h _ => h, fun _ c h => ⟨c, h⟩, fun _ _ _ h => h⟩
theorem Chg.trans (a : Chg mu H mu' H') (b : Chg mu' H' mu'' H'') : Chg mu H mu'' H'' :=
  ⟨fun c o h n => b.keep c o (a.keep c o h n) (a.new c o h n), fun c d h => let ⟨d', e⟩ := a.old c d h; b.old c d' e, fun c o h n => b.new c o (a.keep c o h n) (a.new c o h n)⟩
theorem HM.notup (hm : HM K H mu) {a : Addr} {xs : List V} (h : H a = some (.tup xs)) : mu a = none := by
  cases e : mu a with
  | none => rfl
  | some c =>
    have := hm a c e
    cases c with
    | lst ws => obtain ⟨xs', q, _⟩ := this; rw [h] at q; cases q
    | dic ws => obtain ⟨xs', q, _⟩ := this; rw [h] at q; cases q
    | ins Cl ws => obtain ⟨dx, xs', q, _⟩ := this; rw [h] at q; cases q
theorem HM.nofrz (hm : HM K H mu) {a : Addr} {o : Obj} {u : HO} (h : H a = some (.frz o u)) : mu a = none := by
  cases e : mu a with
  | none => rfl
  | some c =>
    have := hm a c e
    cases c with
    | lst ws => obtain ⟨xs', q, _⟩ := this; rw [h] at q; cases q
    | dic ws => obtain ⟨xs', q, _⟩ := this; rw [h] at q; cases q
    | ins Cl ws => obtain ⟨dx, xs', q, _⟩ := this; rw [h] at q; cases q
theorem Chg.sqt (c : Chg mu H mu' H') (hm : HM K H mu) : ∀ a xs, SqT K H a xs → SqT K H' a xs := fun a xs h => by
  rcases h with (h | ⟨o, h⟩) | h
  · exact .inl (.inl (c.keep _ _ h (hm.notup h)))
  · exact .inl (.inr ⟨o, c.keep _ _ h (hm.nofrz h)⟩)
  · exact .inr h
theorem Chg.den (c : Chg mu H mu' H') (hm : HM K H mu) {w : W} {v : V} (d : Den K H w v) : Den K H' w v := Den.mono (c.sqt hm) w d
theorem Chg.denAll (c : Chg mu H mu' H') (hm : HM K H mu) {w : List W} {v : List V} (d : DenAll K H w v) : DenAll K H' w v := DenAll.mono (c.sqt hm) w d
theorem Chg.denG (c : Chg mu H mu' H') (hm : HM K H mu) {G : List (Option W)} {σ : St} (d : DenG K H G σ) : DenG K H' G σ :=
  ⟨d.1, fun i w h => let ⟨v, e, q⟩ := d.2 i w h; ⟨v, e, c.den hm q⟩⟩
theorem HM.dom (hm : HM K H mu) {a : Addr} (h : H a = none) : mu a = none := by
  cases e : mu a with
  | none => rfl
  | some c =>
    have := hm a c e
    cases c with
    | lst ws => obtain ⟨xs', q, _⟩ := this; rw [h] at q; cases q
    | dic ws => obtain ⟨xs', q, _⟩ := this; rw [h] at q; cases q
    | ins Cl ws => obtain ⟨dx, xs', q, _⟩ := this; rw [h] at q; cases q
theorem HM.some (hm : HM K H mu) {a : Addr} {c : C} (h : mu a = some c) : ∃ o, H a = some o := by
  have := hm a c h
  cases c with
  | lst ws => obtain ⟨xs', q, _⟩ := this; exact ⟨_, q⟩
  | dic ws => obtain ⟨xs', q, _⟩ := this; exact ⟨_, q⟩
  | ins Cl ws => obtain ⟨dx, xs', q, _⟩ := this; exact ⟨_, q⟩
theorem CellOk.mono (h : ∀ a xs, SqT K H a xs → SqT K H' a xs) {a : Addr} {c : C} (hc : CellOk K H a c) (e : H' a = H a) : CellOk K H' a c := by
  cases c with
  | lst ws => obtain ⟨xs, q, d⟩ := hc; exact ⟨xs, e.trans q, DenAll.mono h _ d⟩
  | dic ws => obtain ⟨xs, q, k, d⟩ := hc; exact ⟨xs, e.trans q, k, DenAll.mono h _ d⟩
  | ins Cl ws => obtain ⟨dx, xs, q, k, d⟩ := hc; exact ⟨dx, xs, e.trans q, k, DenAll.mono h _ d⟩
/-- a new untracked-so-far address gets an object that is no cell (a tuple) -/
theorem laid {o : HO} {p : Addr} (hm : HM K H mu) (hp : H p = none) : Chg mu H mu (upd H p o) ∧ HM K (upd H p o) mu := by
  have c : Chg mu H mu (upd H p o) := ⟨fun b o' h _ => by rw [upd_ne (ne_of_none h hp)]; exact h, fun b c h => ⟨c, h⟩, fun _ _ _ h => h⟩
  refine ⟨c, fun a d h => CellOk.mono (c.sqt hm) (hm a d h) ?_⟩
  obtain ⟨o', q⟩ := hm.some h
  rw [upd_ne (ne_of_none q hp)]
/-- a new cell -/
theorem laidC {o : HO} {p : Addr} {c : C} (hm : HM K H mu) (hp : H p = none) (hc : ∀ H', (∀ a xs, SqT K H a xs → SqT K H' a xs) → H' p = some o → CellOk K H' p c) : Chg mu H (setM mu p c) (upd H p o) ∧ HM K (upd H p o) (setM mu p c) := by
  have c1 : Chg mu H (setM mu p c) (upd H p o) := ⟨fun b o' h _ => by rw [upd_ne (ne_of_none h hp)]; exact h,
    fun b d h => by
      by_cases e : b = p
      · subst e; exact ⟨_, setM_same⟩
      · exact ⟨d, by rw [setM_ne e]; exact h⟩, fun b o' h n => by rw [setM_ne (ne_of_none h hp)]; exact n⟩
  refine ⟨c1, fun a d h => ?_⟩
  by_cases e : a = p
  · subst e
    rw [setM_same] at h
    cases h
    exact hc _ (c1.sqt hm) upd_same
  · rw [setM_ne e] at h
    exact CellOk.mono (c1.sqt hm) (hm a d h) (upd_ne e)
/-- a cell is written -/
theorem wrote {o : HO} {p : Addr} {c c0 : C} (hm : HM K H mu) (hp : mu p = some c0) (hc : ∀ H', (∀ a xs, SqT K H a xs → SqT K H' a xs) → H' p = some o → CellOk K H' p c) : Chg mu H (setM mu p c) (upd H p o) ∧ HM K (upd H p o) (setM mu p c) := by
  have ne : ∀ b, mu b = none → b ≠ p := fun b n z => by subst z; rw [hp] at n; cases n
  have c1 : Chg mu H (setM mu p c) (upd H p o) := ⟨fun b o' h n => by rw [upd_ne (ne b n)]; exact h,
    fun b d h => by
      by_cases e : b = p
      · subst e; exact ⟨_, setM_same⟩
      · exact ⟨d, by rw [setM_ne e]; exact h⟩, fun b o' h n => by rw [setM_ne (ne b n)]; exact n⟩
  refine ⟨c1, fun a d h => ?_⟩
  by_cases e : a = p
  · subst e
    rw [setM_same] at h
    cases h
    exact hc _ (c1.sqt hm) upd_same
  · rw [setM_ne e] at h
    exact CellOk.mono (c1.sqt hm) (hm a d h) (upd_ne e)
end

/-! ### the judgements -/
abbrev Gs := List (Option W)
abbrev PW1 := W → Mu → Prop
def Kont (K : PySem.W.Frag) (mu : Mu) (H : Hp) (Post : PW1) (Q : VK) : Prop := ∀ v w mu' H', Post w mu' → Chg mu H mu' H' → Den K H' w v → HM K H' mu' → Q v H'
def KontB (K : PySem.W.Frag) (mu : Mu) (H : Hp) (Post : Bool → Mu → Prop) (Q : Bool → Hp → Prop) : Prop := ∀ b mu' H', Post b mu' → Chg mu H mu' H' → HM K H' mu' → Q b H'
def KontA (K : PySem.W.Frag) (mu : Mu) (H : Hp) (Post : List W → Mu → Prop) (Q : List V → Hp → Prop) : Prop := ∀ vs ws mu' H', Post ws mu' → Chg mu H mu' H' → DenAll K H' ws vs → HM K H' mu' → Q vs H'
structure WE where
  nx : Gs → Mu → Prop
  rt : PW1
  bk : Gs → Mu → Prop := fun _ _ => False
  ct : Gs → Mu → Prop := fun _ _ => False
def KontG (K : PySem.W.Frag) (mu : Mu) (H : Hp) (Post : Gs → Mu → Prop) (Q : St → Hp → Prop) : Prop := ∀ σ G mu' H', Post G mu' → Chg mu H mu' H' → DenG K H' G σ → HM K H' mu' → Q σ H'
structure KontS (K : PySem.W.Frag) (mu : Mu) (H : Hp) (E : WE) (D : Ends) : Prop where
  nx : KontG K mu H E.nx D.nx
  rt : Kont K mu H E.rt D.rt
  bk : KontG K mu H E.bk D.bk
  ct : KontG K mu H E.ct D.ct

section
variable (X : Cx)
def tE (e : Expr) : TE := fun σ H Q => ∀ pins s, Inv X pins σ H s → wpAny (model X.prog X.w) X.A (eval e X.env) (EP X pins σ Q) X.xe s
def tT (e : Expr) : TT := fun σ H Q => ∀ pins s, Inv X pins σ H s → wpAny (model X.prog X.w) X.A (isTrue e X.env (eval e X.env)) (TP X pins σ Q) X.xe s
def tA (es : List Expr) : TA := fun σ H Q => ∀ pos pins s, Inv X pins σ H s → wpAny (model X.prog X.w) X.A (spliced (backTo pos (starEach es X.env))) (AP X pins σ Q) X.xe s
def tS (st : Stmt) : TS := fun D σ H => ∀ pins s, Inv X pins σ H s → wpAny (model X.prog X.w) X.A (exec st X.env) (SP X pins D) X.xe s
def tSs (st : List Stmt) : TS := fun D σ H => ∀ pins s, Inv X pins σ H s → wpAny (model X.prog X.w) X.A (execs st X.env) (SP X pins D) X.xe s
def SE (e : Expr) (G : Gs) (mu : Mu) (Post : PW1) : Prop := ∀ σ H Q, DenG X.K H G σ → HM X.K H mu → Kont X.K mu H Post Q → tE X e σ H Q
def ST (e : Expr) (G : Gs) (mu : Mu) (Post : Bool → Mu → Prop) : Prop := ∀ σ H Q, DenG X.K H G σ → HM X.K H mu → KontB X.K mu H Post Q → tT X e σ H Q
def SA (es : List Expr) (G : Gs) (mu : Mu) (Post : List W → Mu → Prop) : Prop := ∀ σ H Q, DenG X.K H G σ → HM X.K H mu → KontA X.K mu H Post Q → tA X es σ H Q
def SS (st : Stmt) (G : Gs) (mu : Mu) (E : WE) : Prop := ∀ σ H D, DenG X.K H G σ → HM X.K H mu → KontS X.K mu H E D → tS X st D σ H
def SSs (st : List Stmt) (G : Gs) (mu : Mu) (E : WE) : Prop := ∀ σ H D, DenG X.K H G σ → HM X.K H mu → KontS X.K mu H E D → tSs X st D σ H
end
section
variable {X : Cx} {e a b : Expr} {es : List Expr} {st : Stmt} {sts : List Stmt} {G : Gs} {mu mu' : Mu} {H H' : Hp} {σ : St} {K : PySem.W.Frag}
theorem peE : PE X e (tE X e) := ⟨fun pins s _ _ _ I h => h pins s I⟩
theorem ptT : PT X e (tT X e) := ⟨fun pins s _ _ _ I h => h pins s I⟩
theorem paA : PA X es (tA X es) := ⟨fun pos pins s _ _ _ I h => h pos pins s I⟩
theorem psS : PS X st (tS X st) := ⟨fun pins s _ _ _ I h => h pins s I⟩
theorem pssS : PSs X sts (tSs X sts) := ⟨fun pins s _ _ _ I h => h pins s I⟩
theorem SE.mk {t : TE} {Post : PW1} (p : PE X e t) (r : ∀ σ H Q, DenG X.K H G σ → HM X.K H mu → Kont X.K mu H Post Q → t σ H Q) : SE X e G mu Post := fun σ H Q d m k pins s I => p.run pins s σ H Q I (r σ H Q d m k)
theorem ST.mk {t : TT} {Post : Bool → Mu → Prop} (p : PT X e t) (r : ∀ σ H Q, DenG X.K H G σ → HM X.K H mu → KontB X.K mu H Post Q → t σ H Q) : ST X e G mu Post := fun σ H Q d m k pins s I => p.run pins s σ H Q I (r σ H Q d m k)
theorem SA.mk {t : TA} {Post : List W → Mu → Prop} (p : PA X es t) (r : ∀ σ H Q, DenG X.K H G σ → HM X.K H mu → KontA X.K mu H Post Q → t σ H Q) : SA X es G mu Post := fun σ H Q d m k pos pins s I => p.run pos pins s σ H Q I (r σ H Q d m k)
theorem SS.mk {t : TS} {E : WE} (p : PS X st t) (r : ∀ σ H D, DenG X.K H G σ → HM X.K H mu → KontS X.K mu H E D → t D σ H) : SS X st G mu E := fun σ H D d m k pins s I => p.run pins s σ H D I (r σ H D d m k)
theorem SSs.mk {t : TS} {E : WE} (p : PSs X sts t) (r : ∀ σ H D, DenG X.K H G σ → HM X.K H mu → KontS X.K mu H E D → t D σ H) : SSs X sts G mu E := fun σ H D d m k pins s I => p.run pins s σ H D I (r σ H D d m k)
theorem Kont.step {Post : PW1} {Q : VK} (k : Kont K mu H Post Q) (c : Chg mu H mu' H') : Kont K mu' H' Post Q := fun v w m2 H2 p c2 d m => k v w m2 H2 p (c.trans c2) d m
theorem KontB.step {Post : Bool → Mu → Prop} {Q : Bool → Hp → Prop} (k : KontB K mu H Post Q) (c : Chg mu H mu' H') : KontB K mu' H' Post Q := fun w m2 H2 p c2 m => k w m2 H2 p (c.trans c2) m
theorem KontA.step {Post : List W → Mu → Prop} {Q : List V → Hp → Prop} (k : KontA K mu H Post Q) (c : Chg mu H mu' H') : KontA K mu' H' Post Q := fun v w m2 H2 p c2 d m => k v w m2 H2 p (c.trans c2) d m
theorem KontG.step {Post : Gs → Mu → Prop} {Q : St → Hp → Prop} (k : KontG K mu H Post Q) (c : Chg mu H mu' H') : KontG K mu' H' Post Q := fun v w m2 H2 p c2 d m => k v w m2 H2 p (c.trans c2) d m
theorem KontS.step {E : WE} {D : Ends} (k : KontS K mu H E D) (c : Chg mu H mu' H') : KontS K mu' H' E D := ⟨k.nx.step c, k.rt.step c, k.bk.step c, k.ct.step c⟩
theorem Kont.now {Post : PW1} {Q : VK} (k : Kont K mu H Post Q) {w : W} {v : V} (p : Post w mu) (d : Den K H w v) (m : HM K H mu) : Q v H := k v w mu H p Chg.refl d m
/-- a part's end: what comes next, at the state behind it -/
theorem Kont.of {Post : PW1} {Q : VK} (f : ∀ v w mu' H', Post w mu' → Chg mu H mu' H' → Den K H' w v → HM K H' mu' → Q v H') : Kont K mu H Post Q := f
end
end Dv
set_option Elab.async false
set_option linter.all false
set_option maxRecDepth 100000
/-! Rules by values: names, constants, displays, operators, comparisons, tests, statements, loops. -/
namespace Dv
open PySem L2
section
variable {X : Cx} {e a b c : Expr} {es : List Expr} {st : Stmt} {sts : List Stmt} {G : Gs} {mu mu' : Mu} {pos : Pos} {P : PW1}

/-! ### atoms -/
theorem se_var {i : Nat} {x : Str} {w : W} (hG : G[i]? = some (some w)) (h : P w mu) (hN : X.N[i]? = some x := by rfl) (hv : Vis X.env.scope x := by first | exact Or.inl rfl | exact Or.inr (Or.inl rfl) | exact Or.inr (Or.inr rfl))
    (hd : (x == ("__debug__" : Str)) = false := by decide) (hcd : (x == ("__classdict__" : Str)) = false := by decide) : SE X (.Name x pos) G mu P :=
  SE.mk (pe_var hN hv hd hcd) fun σ H Q d m k => let ⟨v, e, q⟩ := d.2 i w hG; ⟨v, e, k.now h q m⟩
theorem se_int {i j} (h : P (.int i) mu) : SE X (.Constant (.int i) j pos) G mu P := SE.mk pe_int fun σ H Q d m k => k.now h rfl m
theorem se_bl {i j} (h : P (.bl i) mu) : SE X (.Constant (.bool i) j pos) G mu P := SE.mk pe_bl fun σ H Q d m k => k.now h rfl m
theorem se_non {j} (h : P .non mu) : SE X (.Constant .none j pos) G mu P := SE.mk pe_non fun σ H Q d m k => k.now h rfl m
theorem se_str {i j} (h : P (.str i) mu) : SE X (.Constant (.str i) j pos) G mu P := SE.mk pe_str fun σ H Q d m k => k.now h rfl m
/-- a module's constant -/
theorem se_glob {x : Str} {w : W} {v : V} {u : Value} (hm : X.mg x = some u) (r : RelV v u) (hw : ∀ K H, Den K H w v) (h : P w mu) (hg : Gl X x := by rfl) (hd : (x == ("__debug__" : Str)) = false := by decide) : SE X (.Name x pos) G mu P :=
  SE.mk (pe_glob hg hm r hd) fun σ H Q d m k => k.now h (hw _ _) m

/-! ### arguments, displays -/
theorem sa_nil {P : List W → Mu → Prop} (h : P [] mu) : SA X [] G mu P := SA.mk pa_nil fun σ H Q d m k => k [] [] mu H h Chg.refl rfl m
theorem sa_cons {P : List W → Mu → Prop} (h : SE X e G mu fun w mu1 => SA X es G mu1 fun ws mu2 => P (w :: ws) mu2) (hs : starEach (e :: es) X.env = (false, eval e X.env) :: starEach es X.env := by rfl) : SA X (e :: es) G mu P :=
  SA.mk (pa_cons peE paA hs) fun σ H Q d m k => h σ H _ d m fun v w mu1 H1 h1 c1 d1 m1 => h1 σ H1 _ (c1.denG m d) m1 fun vs ws mu2 H2 h2 c2 d2 m2 => k _ _ mu2 H2 h2 (c1.trans c2) ⟨v, vs, rfl, c2.den m1 d1, d2⟩ m2
theorem se_tup {x1} (h : SA X es G mu fun ws mu1 => ws.length ≤ sizeLine ∧ P (.tup ws) mu1) : SE X (.Tuple es x1 pos) G mu P :=
  SE.mk (pe_tup paA) fun σ H Q d m k => h σ H _ d m fun vs ws mu1 H1 ⟨hl, h1⟩ c1 d1 m1 => ⟨by rw [← d1.length]; exact hl, fun p hp => by
    obtain ⟨c2, m2⟩ := laid (o := .tup vs) m1 hp
    exact k _ _ mu1 _ h1 (c1.trans c2) ⟨p, vs, rfl, SqT.of upd_same, c2.denAll m1 d1⟩ m2⟩
theorem newLst {K : PySem.W.Frag} {H : Hp} {p : Addr} {vs : List V} {ws : List W} (d : DenAll K H ws vs) : ∀ H', (∀ a xs, SqT K H a xs → SqT K H' a xs) → H' p = some (.lst vs) → CellOk K H' p (.lst ws) := fun H' st h => ⟨vs, h, DenAll.mono st _ d⟩
theorem se_lst (h : SA X es G mu fun ws mu1 => ws.length ≤ sizeLine ∧ ∀ p, mu1 p = none → P (.m p) (setM mu1 p (.lst ws))) : SE X (.List es pos) G mu P :=
  SE.mk (pe_lst paA) fun σ H Q d m k => h σ H _ d m fun vs ws mu1 H1 ⟨hl, h1⟩ c1 d1 m1 => ⟨by rw [← d1.length]; exact hl, fun p hp => by
    obtain ⟨c2, m2⟩ := laidC (o := .lst vs) (c := .lst ws) m1 hp (newLst d1)
    exact k _ _ _ _ (h1 p (m1.dom hp)) (c1.trans c2) rfl m2⟩

/-! ### operators -/
theorem opr_or {f : Value → Value → Sem Value} {r1 r2 : R2} (h1 : OpR X f r1) (h2 : OpR X f r2) : OpR X f fun x y H Q => r1 x y H Q ∨ r2 x y H Q :=
  fun pins s σ H x y v u Q I rx ry h => h.elim (h1 pins s σ H x y v u Q I rx ry) (h2 pins s σ H x y v u Q I rx ry)
/-- a rule by values of a rule over the heap -/
def OpW (X : Cx) (r : R2) (f : W → W → Mu → PW1 → Prop) : Prop := ∀ w1 w2 x y mu H P Q, Den X.K H w1 x → Den X.K H w2 y → HM X.K H mu → f w1 w2 mu P → Kont X.K mu H P Q → r x y H Q
theorem se_bin {op : Operator} {r : R2} {f : W → W → Mu → PW1 → Prop} (ho : OpR X (binaryOp op) r) (hw : OpW X r f)
    (h : SE X a G mu fun w1 mu1 => SE X b G mu1 fun w2 mu2 => f w1 w2 mu2 P) : SE X (.BinOp a op b pos) G mu P :=
  SE.mk (pe_op ho peE peE) fun σ H Q d m k => h σ H _ d m fun x w1 mu1 H1 h1 c1 d1 m1 => h1 σ H1 _ (c1.denG m d) m1 fun y w2 mu2 H2 h2 c2 d2 m2 =>
    hw _ _ _ _ _ _ _ _ (c2.den m1 d1) d2 m2 h2 (k.step (c1.trans c2))
theorem se_cmp {op : CmpOp} {r : R2} {f : W → W → Mu → PW1 → Prop} (ho : OpR X (compareOp op) r) (hw : OpW X r f) (hb : behindInMarks op b = false)
    (h : SE X a G mu fun w1 mu1 => SE X b G mu1 fun w2 mu2 => f w1 w2 mu2 P) : SE X (.Compare a [op] [b] pos) G mu P :=
  SE.mk (pe_cmpR ho peE peE hb) fun σ H Q d m k => h σ H _ d m fun x w1 mu1 H1 h1 c1 d1 m1 => h1 σ H1 _ (c1.denG m d) m1 fun y w2 mu2 H2 h2 c2 d2 m2 =>
    hw _ _ _ _ _ _ _ _ (c2.den m1 d1) d2 m2 h2 (k.step (c1.trans c2))
/-- a bool as the end of a test -/
abbrev isB (P : Bool → Mu → Prop) : PW1 := fun w mu => match w with | .bl k => P k mu | _ => False
theorem isB_den {K : PySem.W.Frag} {H : Hp} {mu : Mu} {P : Bool → Mu → Prop} {w : W} {v : V} (h : isB P w mu) (d : Den K H w v) : ∃ k, w = .bl k ∧ v = .bl k ∧ P k mu := by
  cases w with
  | bl k => exact ⟨k, rfl, d, h⟩
  | _ => exact h.elim
theorem st_cmp {op : CmpOp} {r : R2} {f : W → W → Mu → PW1 → Prop} {P : Bool → Mu → Prop} (ho : OpR X (compareOp op) r) (hw : OpW X r f) (hb : behindInMarks op b = false)
    (h : SE X a G mu fun w1 mu1 => SE X b G mu1 fun w2 mu2 => f w1 w2 mu2 (isB P)) : ST X (.Compare a [op] [b] pos) G mu P :=
  ST.mk (pt_cmpR ho peE peE hb) fun σ H Q d m k => h σ H _ d m fun x w1 mu1 H1 h1 c1 d1 m1 => h1 σ H1 _ (c1.denG m d) m1 fun y w2 mu2 H2 h2 c2 d2 m2 =>
    hw _ _ _ _ _ _ _ _ (c2.den m1 d1) d2 m2 h2 fun v w mu3 H3 h3 c3 d3 m3 => let ⟨kk, e1, e2, h4⟩ := isB_den h3 d3; ⟨kk, e2, k _ _ _ h4 ((c1.trans c2).trans c3) m3⟩
theorem st_val {P : Bool → Mu → Prop} (h : SE X e G mu (isB P)) (he : ∀ whole, isTrue e X.env whole = (do let v ← whole; standAt e.pos; holding [v] (truthy v)) := by intro _; rfl) : ST X e G mu P :=
  ST.mk (pt_val peE he) fun σ H Q d m k => h σ H _ d m fun v w mu1 H1 h1 c1 d1 m1 => let ⟨kk, e1, e2, h4⟩ := isB_den h1 d1; ⟨kk, e2, k _ _ _ h4 c1 m1⟩
theorem st_not {P : Bool → Mu → Prop} (h : ST X a G mu fun k mu1 => P (!k) mu1) : ST X (.UnaryOp .Not a pos) G mu P :=
  ST.mk (pt_not ptT) fun σ H Q d m k => h σ H _ d m fun b mu1 H1 h1 c1 m1 => k _ _ _ h1 c1 m1
/-! tests: and, or -/
def tW (X : Cx) (e : Expr) : TT := fun σ H Q => ∀ (whole : Sem Value) pins s, Inv X pins σ H s → wpAny (model X.prog X.w) X.A (isTrue e X.env whole) (TP X pins σ Q) X.xe s
def SW (X : Cx) (e : Expr) (G : Gs) (mu : Mu) (Post : Bool → Mu → Prop) : Prop := ∀ σ H Q, DenG X.K H G σ → HM X.K H mu → KontB X.K mu H Post Q → tW X e σ H Q
theorem pwW : PW X e (tW X e) := ⟨fun whole pins s _ _ _ I h => h whole pins s I⟩
theorem SW.mk {t : TT} {Post : Bool → Mu → Prop} (p : PW X e t) (r : ∀ σ H Q, DenG X.K H G σ → HM X.K H mu → KontB X.K mu H Post Q → t σ H Q) : SW X e G mu Post := fun σ H Q d m k whole pins s I => p.run whole pins s σ H Q I (r σ H Q d m k)
theorem st_of_w {P : Bool → Mu → Prop} (h : SW X e G mu P) : ST X e G mu P := ST.mk (PW.pt pwW) fun σ H Q d m k => h σ H Q d m k
theorem sw_and1 {P : Bool → Mu → Prop} (h : ST X a G mu P) : SW X (.BoolOp .And [a] pos) G mu P := SW.mk (pw_and1 ptT) fun σ H Q d m k => h σ H Q d m k
theorem sw_or1 {P : Bool → Mu → Prop} (h : ST X a G mu P) : SW X (.BoolOp .Or [a] pos) G mu P := SW.mk (pw_or1 ptT) fun σ H Q d m k => h σ H Q d m k
abbrev if2 (k : Bool) (A B : Prop) : Prop := match k with | true => A | false => B
theorem sw_and {P : Bool → Mu → Prop} {rest : List Expr} (h : ST X a G mu fun k mu1 => if2 k (SW X (.BoolOp .And (b :: rest) pos) G mu1 P) (P false mu1)) : SW X (.BoolOp .And (a :: b :: rest) pos) G mu P :=
  SW.mk (pw_and ptT pwW) fun σ H Q d m k => h σ H _ d m fun b mu1 H1 h1 c1 m1 => by
    cases b with
    | true => exact iteT (h1 σ H1 Q (c1.denG m d) m1 (k.step c1))
    | false => exact iteF (k _ _ _ h1 c1 m1)
theorem sw_or {P : Bool → Mu → Prop} {rest : List Expr} (h : ST X a G mu fun k mu1 => if2 k (P true mu1) (SW X (.BoolOp .Or (b :: rest) pos) G mu1 P)) : SW X (.BoolOp .Or (a :: b :: rest) pos) G mu P :=
  SW.mk (pw_or ptT pwW) fun σ H Q d m k => h σ H _ d m fun b mu1 H1 h1 c1 m1 => by
    cases b with
    | false => exact iteF (h1 σ H1 Q (c1.denG m d) m1 (k.step c1))
    | true => exact iteT (k _ _ _ h1 c1 m1)
/-! values: and, or, not, if else -/
abbrev bW (w : W) (A B : Prop) : Prop := match w with | .bl true => A | .bl false => B | _ => False
theorem bW_den {K : PySem.W.Frag} {H : Hp} {A B : Prop} {w : W} {v : V} (h : bW w A B) (d : Den K H w v) : ∃ k, v = .bl k ∧ w = .bl k ∧ if k = true then A else B := by
  cases w with
  | bl k => cases k with
    | true => exact ⟨true, d, rfl, iteT h⟩
    | false => exact ⟨false, d, rfl, iteF h⟩
  | _ => exact h.elim
theorem se_one {op} (h : SE X a G mu P) : SE X (.BoolOp op [a] pos) G mu P := SE.mk (pe_one peE) fun σ H Q d m k => h σ H Q d m k
theorem se_and {rest : List Expr} (h : SE X a G mu fun w mu1 => bW w (SE X (.BoolOp .And (b :: rest) pos) G mu1 P) (P (.bl false) mu1)) : SE X (.BoolOp .And (a :: b :: rest) pos) G mu P :=
  SE.mk (pe_and peE peE) fun σ H Q d m k => h σ H _ d m fun v w mu1 H1 h1 c1 d1 m1 => by
    obtain ⟨kk, e1, e2, q⟩ := bW_den h1 d1
    refine ⟨kk, e1, ?_⟩
    cases kk with
    | true => exact iteT ((show SE X _ G mu1 P from q) σ H1 Q (c1.denG m d) m1 (k.step c1))
    | false => exact iteF (k _ _ _ _ (show P (.bl false) mu1 from q) c1 rfl m1)
theorem se_or {rest : List Expr} (h : SE X a G mu fun w mu1 => bW w (P (.bl true) mu1) (SE X (.BoolOp .Or (b :: rest) pos) G mu1 P)) : SE X (.BoolOp .Or (a :: b :: rest) pos) G mu P :=
  SE.mk (pe_or peE peE) fun σ H Q d m k => h σ H _ d m fun v w mu1 H1 h1 c1 d1 m1 => by
    obtain ⟨kk, e1, e2, q⟩ := bW_den h1 d1
    refine ⟨kk, e1, ?_⟩
    cases kk with
    | false => exact iteF ((show SE X _ G mu1 P from q) σ H1 Q (c1.denG m d) m1 (k.step c1))
    | true => exact iteT (k _ _ _ _ (show P (.bl true) mu1 from q) c1 rfl m1)
theorem se_not (h : SE X a G mu (isB fun k mu1 => P (.bl !k) mu1)) : SE X (.UnaryOp .Not a pos) G mu P :=
  SE.mk (pe_not peE) fun σ H Q d m k => h σ H _ d m fun v w mu1 H1 h1 c1 d1 m1 => let ⟨kk, e1, e2, h4⟩ := isB_den h1 d1; ⟨kk, e2, k _ _ _ _ h4 c1 rfl m1⟩
theorem se_if (h : ST X c G mu fun k mu1 => if2 k (SE X a G mu1 P) (SE X b G mu1 P)) : SE X (.IfExp c a b pos) G mu P :=
  SE.mk (pe_ifExp ptT peE peE) fun σ H Q d m k => h σ H _ d m fun kk mu1 H1 h1 c1 m1 => by
    cases kk with
    | true => exact iteT (h1 σ H1 Q (c1.denG m d) m1 (k.step c1))
    | false => exact iteF (h1 σ H1 Q (c1.denG m d) m1 (k.step c1))
/-! two comparisons in a chain -/
theorem se_chain {op op' : CmpOp} {r r' : R2} {f f' : W → W → Mu → PW1 → Prop} (ho : OpR X (compareOp op) r) (hw : OpW X r f) (ho' : OpR X (compareOp op') r') (hw' : OpW X r' f')
    (h : SE X a G mu fun w1 mu1 => SE X b G mu1 fun w2 mu2 => f w1 w2 mu2 fun z mu3 => bW z (SE X c G mu3 fun w3 mu4 => f' w2 w3 mu4 P) (P (.bl false) mu3)) (hb : lastMarks [op, op'] [b, c] = false := by rfl) : SE X (.Compare a [op, op'] [b, c] pos) G mu P :=
  SE.mk (pe_chain ho ho' peE peE peE hb) fun σ H Q d m k => h σ H _ d m fun x w1 mu1 H1 h1 c1 d1 m1 => h1 σ H1 _ (c1.denG m d) m1 fun y w2 mu2 H2 h2 c2 d2 m2 =>
    hw _ _ _ _ _ _ _ _ (c2.den m1 d1) d2 m2 h2 fun v w mu3 H3 h3 c3 d3 m3 => by
      have c123 := (c1.trans c2).trans c3
      obtain ⟨kk, e1, e2, q⟩ := bW_den h3 d3
      refine ⟨kk, e1, ?_⟩
      cases kk with
      | true => exact iteT ((show SE X c G mu3 _ from q) σ H3 _ (c123.denG m d) m3 fun v w mu4 H4 h4 c4 d4 m4 => hw' _ _ _ _ _ _ _ _ (c4.den m3 (c3.den m2 d2)) d4 m4 h4 (k.step (c123.trans c4)))
      | false => exact iteF (k _ _ _ _ (show P (.bl false) mu3 from q) c123 rfl m3)
theorem st_chain {op op' : CmpOp} {r r' : R2} {f f' : W → W → Mu → PW1 → Prop} {P : Bool → Mu → Prop} (ho : OpR X (compareOp op) r) (hw : OpW X r f) (ho' : OpR X (compareOp op') r') (hw' : OpW X r' f')
    (h : SE X a G mu fun w1 mu1 => SE X b G mu1 fun w2 mu2 => f w1 w2 mu2 fun z mu3 => bW z (SE X c G mu3 fun w3 mu4 => f' w2 w3 mu4 (isB P)) (P false mu3)) (hb : lastMarks [op, op'] [b, c] = false := by rfl) : ST X (.Compare a [op, op'] [b, c] pos) G mu P :=
  ST.mk (pt_chain ho ho' peE peE peE hb) fun σ H Q d m k => h σ H _ d m fun x w1 mu1 H1 h1 c1 d1 m1 => h1 σ H1 _ (c1.denG m d) m1 fun y w2 mu2 H2 h2 c2 d2 m2 =>
    hw _ _ _ _ _ _ _ _ (c2.den m1 d1) d2 m2 h2 fun v w mu3 H3 h3 c3 d3 m3 => by
      have c123 := (c1.trans c2).trans c3
      obtain ⟨kk, e1, e2, q⟩ := bW_den h3 d3
      refine ⟨kk, e1, ?_⟩
      cases kk with
      | true => exact iteT ((show SE X c G mu3 _ from q) σ H3 _ (c123.denG m d) m3 fun v w mu4 H4 h4 c4 d4 m4 => hw' _ _ _ _ _ _ _ _ (c4.den m3 (c3.den m2 d2)) d4 m4 h4 fun v w mu5 H5 h5 c5 d5 m5 => let ⟨kk, e1, e2, h6⟩ := isB_den h5 d5; ⟨kk, e2, k _ _ _ h6 ((c123.trans c4).trans c5) m5⟩)
      | false => exact iteF ⟨false, rfl, k _ _ _ (show P false mu3 from q) c123 m3⟩

/-! ### statements -/
theorem sss_nil {E : WE} (h : E.nx G mu) : SSs X [] G mu E := SSs.mk pss_nil fun σ H D d m k => k.nx _ _ _ _ h Chg.refl d m
theorem sss_cons {E : WE} (h : SS X st G mu { E with nx := fun G1 mu1 => SSs X sts G1 mu1 E }) : SSs X (st :: sts) G mu E :=
  SSs.mk (pss_cons psS pssS) fun σ H D d m k => h σ H _ d m ⟨fun σ1 G1 mu1 H1 h1 c1 d1 m1 => h1 σ1 H1 D d1 m1 (k.step c1), k.rt, k.bk, k.ct⟩
theorem ss_ret {E : WE} (h : SE X e G mu E.rt) : SS X (.Return (some e) pos) G mu E := SS.mk (ps_ret peE) fun σ H D d m k => h σ H _ d m k.rt
theorem ss_pass {E : WE} (h : E.nx G mu) : SS X (.Pass pos) G mu E := SS.mk ps_pass fun σ H D d m k => k.nx _ _ _ _ h Chg.refl d m
theorem ss_expr {E : WE} (h : SE X e G mu fun _ mu1 => E.nx G mu1) (hs : swapsWith e none pos.line X.env = pure false := by rfl) : SS X (.Expr e pos) G mu E :=
  SS.mk (ps_expr peE hs) fun σ H D d m k => h σ H _ d m fun v w mu1 H1 h1 c1 d1 m1 => k.nx _ _ _ _ h1 c1 (c1.denG m d) m1
theorem ss_if {E : WE} {u t : List Stmt} (h : ST X c G mu fun k mu1 => if2 k (SSs X t G mu1 E) (SSs X u G mu1 E)) : SS X (.If c t u pos) G mu E :=
  SS.mk (ps_if ptT pssS pssS) fun σ H D d m k => h σ H _ d m fun kk mu1 H1 h1 c1 m1 => by
    cases kk with
    | true => exact iteT (h1 σ H1 D (c1.denG m d) m1 (k.step c1))
    | false => exact iteF (h1 σ H1 D (c1.denG m d) m1 (k.step c1))
theorem DenG.set {K : PySem.W.Frag} {H : Hp} {G : Gs} {σ : St} {i : Nat} {w : W} {v : V} (d : DenG K H G σ) (q : Den K H w v) : DenG K H (G.set i (some w)) (σ.set i (some v)) := by
  refine ⟨by rw [List.length_set, List.length_set]; exact d.1, fun j w' h => ?_⟩
  by_cases e : i = j
  · subst e
    by_cases hl : i < G.length
    · rw [List.getElem?_set_self hl] at h
      cases h
      exact ⟨v, List.getElem?_set_self (by rw [← d.1]; exact hl), q⟩
    · rw [List.getElem?_eq_none (by simpa using hl)] at h
      cases h
  · rw [List.getElem?_set_ne e] at h
    rw [List.getElem?_set_ne e]
    exact d.2 j w' h
/-! targets -/
def tG (X : Cx) (e : Expr) : TG := fun v σ H Q => ∀ (u : Value) pins s, RelV v u → Inv X pins σ H s → wpAny (model X.prog X.w) X.A (assign e X.env u) (fun _ s' => ∃ σ' H', Inv X pins σ' H' s' ∧ Q σ' H') X.xe s
def tGs (X : Cx) (es : List Expr) : TGs := fun vs σ H Q => ∀ (us : List Value) pins s, Vals vs us → Inv X pins σ H s → wpAny (model X.prog X.w) X.A (assignInOrder ((assignEach es X.env).map (·.2)) us) (fun _ s' => ∃ σ' H', Inv X pins σ' H' s' ∧ Q σ' H') X.xe s
theorem pgG : PG X e (tG X e) := ⟨fun pins s σ H v u Q I r h => h u pins s r I⟩
theorem pgsG : PGs X es (tGs X es) := ⟨fun pins s σ H v u Q I r h => h u pins s r I⟩
def SG (X : Cx) (e : Expr) (w : W) (G : Gs) (mu : Mu) (Post : Gs → Mu → Prop) : Prop := ∀ σ H v Q, DenG X.K H G σ → HM X.K H mu → Den X.K H w v → KontG X.K mu H Post Q → tG X e v σ H Q
def SGs (X : Cx) (es : List Expr) (ws : List W) (G : Gs) (mu : Mu) (Post : Gs → Mu → Prop) : Prop := ∀ σ H vs Q, DenG X.K H G σ → HM X.K H mu → DenAll X.K H ws vs → KontG X.K mu H Post Q → tGs X es vs σ H Q
theorem SG.mk {t : TG} {w : W} {Post : Gs → Mu → Prop} (p : PG X e t) (r : ∀ σ H v Q, DenG X.K H G σ → HM X.K H mu → Den X.K H w v → KontG X.K mu H Post Q → t v σ H Q) : SG X e w G mu Post :=
  fun σ H v Q d m dv k u pins s rv I => p.run pins s σ H v u Q I rv (r σ H v Q d m dv k)
theorem SGs.mk {t : TGs} {ws : List W} {Post : Gs → Mu → Prop} (p : PGs X es t) (r : ∀ σ H v Q, DenG X.K H G σ → HM X.K H mu → DenAll X.K H ws v → KontG X.K mu H Post Q → t v σ H Q) : SGs X es ws G mu Post :=
  fun σ H v Q d m dv k u pins s rv I => p.run pins s σ H v u Q I rv (r σ H v Q d m dv k)
theorem sg_name {i : Nat} {x : Str} {w : W} {Post : Gs → Mu → Prop} (h : Post (G.set i (some w)) mu) (hN : X.N.Nodup) (hi : X.N[i]? = some x := by rfl) (hx : Loc X.env.scope x := by first | exact .inl rfl | exact .inr rfl)
    (hf : X.fn x = true ∨ X.env.scope.names.lookup x = some .local := by first | exact .inl rfl | exact .inr rfl) : SG X (.Name x pos) w G mu Post :=
  SG.mk (pg_name hN hi hx hf) fun σ H v Q d m dv k => k _ _ _ _ h Chg.refl (DenG.set d dv) m
theorem sgs_nil {Post : Gs → Mu → Prop} (h : Post G mu) : SGs X [] [] G mu Post := SGs.mk pgs_nil fun σ H vs Q d m dv k => ⟨dv, k _ _ _ _ h Chg.refl d m⟩
theorem sgs_cons {w : W} {ws : List W} {Post : Gs → Mu → Prop} (h : SG X e w G mu fun G1 mu1 => SGs X es ws G1 mu1 Post) (ha : (assignEach (e :: es) X.env).map (·.2) = assign e X.env :: (assignEach es X.env).map (·.2) := by rfl) : SGs X (e :: es) (w :: ws) G mu Post :=
  SGs.mk (pgs_cons pgG pgsG ha) fun σ H vs Q d m dv k => by
    obtain ⟨v, r, e1, dv1, dr⟩ := dv
    exact ⟨v, r, e1, h σ H v _ d m dv1 fun σ1 G1 mu1 H1 h1 c1 d1 m1 => h1 σ1 H1 r Q d1 m1 (c1.denAll m dr) (k.step c1)⟩
theorem sg_tup {n : Nat} {kk : Nat} {ws : List W} {Post : Gs → Mu → Prop} (h : SGs X es ws G mu Post) (hc : X.calm = true := by rfl) (hn : ws.length = n := by rfl)
    (ht : ∀ {t : TGs}, PGs X es t → PG X (.Tuple es kk pos) (gTup X.K n t) := by exact fun h => pg_tup rfl h) : SG X (.Tuple es kk pos) (.tup ws) G mu Post :=
  SG.mk (ht pgsG) fun σ H v Q d m dv k => by
    obtain ⟨a, xs, e1, s1, dv1⟩ := dv
    exact ⟨a, xs, e1, s1, by rw [← dv1.length]; exact hn, h σ H xs Q d m dv1 k⟩
theorem ss_asg {tg : Expr} {E : WE} (h : SE X e G mu fun w mu1 => SG X tg w G mu1 E.nx) (hs : swapsWithSole [tg] e pos.line X.env = pure false := by rfl) (hw : swappedStores [tg] e X.env = pure none := by rfl)
    (ha : (assignEach [tg] X.env).map (·.2) = [assign tg X.env] := by rfl) : SS X (.Assign [tg] e pos) G mu E :=
  SS.mk (ps_asg peE pgG hs hw ha) fun σ H D d m k => h σ H _ d m fun v w mu1 H1 h1 c1 d1 m1 => h1 σ H1 v _ (c1.denG m d) m1 d1 (k.nx.step c1)
end
end Dv
set_option Elab.async false
set_option linter.all false
set_option maxRecDepth 100000
/-! Loops and comprehensions by values. -/
namespace Dv
open PySem L2

/-- what a for walks, by values: ws in turn, while Gm holds of the cells -/
def ItW (K : PySem.W.Frag) (J : It) (ws : List W) (Gm : Mu → Prop) (mu1 : Mu) (H1 : Hp) : Prop :=
  ∃ (Gh : Hp → Prop) (Y : Nat → Hp → V → Hp → Prop), Walk J ws.length Gh Y ∧ (∀ mu' H', Chg mu1 H1 mu' H' → HM K H' mu' → Gm mu' → Gh H') ∧
    ∀ i H x H' mu', i < ws.length → Chg mu1 H1 mu' H → HM K H mu' → Gm mu' → Y i H x H' → ∃ w, ws[i]? = some w ∧ Chg mu' H mu' H' ∧ HM K H' mu' ∧ Den K H' w x

section
variable {X : Cx} {e a b c : Expr} {es : List Expr} {st : Stmt} {sts : List Stmt} {G : Gs} {mu mu' : Mu} {pos : Pos} {P : PW1}
def tI (X : Cx) (tg iter : Expr) : TI := fun σ H R => ∀ pins s, Inv X pins σ H s → wpAny (model X.prog X.w) X.A (eval iter X.env) (fun v s1 => wpAny (model X.prog X.w) X.A (pyIter v) (PIE X pins σ tg R) X.xe s1) X.xe s
theorem piI {tg iter : Expr} : PI X tg iter (tI X tg iter) := ⟨fun pins s σ H R I h => h pins s I⟩
def SI (X : Cx) (tg iter : Expr) (G : Gs) (mu : Mu) (Post : List W → (Mu → Prop) → Mu → Prop) : Prop := ∀ σ H R, DenG X.K H G σ → HM X.K H mu →
  (∀ J ws Gm mu1 H1, Post ws Gm mu1 → Chg mu H mu1 H1 → HM X.K H1 mu1 → ItW X.K J ws Gm mu1 H1 → R J H1) → tI X tg iter σ H R
theorem SI.mk {tg iter : Expr} {wi : TI} {Post : List W → (Mu → Prop) → Mu → Prop} (p : PI X tg iter wi) (r : ∀ σ H R, DenG X.K H G σ → HM X.K H mu →
  (∀ J ws Gm mu1 H1, Post ws Gm mu1 → Chg mu H mu1 H1 → HM X.K H1 mu1 → ItW X.K J ws Gm mu1 H1 → R J H1) → wi σ H R) : SI X tg iter G mu Post := fun σ H R d m k pins s I => p.run pins s σ H R I (r σ H R d m k)

theorem itw_tup {K : PySem.W.Frag} {H : Hp} {mu : Mu} {a : Addr} {xs : List V} {ws : List W} (m : HM K H mu) (s : SqT K H a xs) (d : DenAll K H ws xs) : ItW K (Itt K a) ws (fun _ => True) mu H := by
  refine ⟨fun H' => SqT K H' a xs, YAt xs, by rw [d.length]; exact walk_tup, fun mu' H' c m' _ => c.sqt m a xs s, fun i H1 x H2 mu' hi c m' _ ⟨e, y⟩ => ?_⟩
  subst e
  obtain ⟨w, h1, h2⟩ := (c.denAll m d).get y
  exact ⟨w, h1, Chg.refl, m', h2⟩
theorem itw_lst {K : PySem.W.Frag} {H : Hp} {mu : Mu} {a : Addr} {ws : List W} (m : HM K H mu) (h : mu a = some (.lst ws)) : ItW K (Itl K a) ws (fun mu' => mu' a = some (.lst ws)) mu H := by
  obtain ⟨xs, hx, d⟩ := m a _ h
  refine ⟨fun H' => ∃ ys, SqL K H' a ys ∧ DenAll K H' ws ys, fun i H1 x H2 => H2 = H1 ∧ ∃ ys, DenAll K H1 ws ys ∧ ys[i]? = some x, ⟨fun i H' hi ⟨ys, s, d'⟩ => ?_, fun H' ⟨ys, s, d'⟩ => ?_, fun i H' x H'' hi ⟨ys, s, d'⟩ y => ?_⟩,
    fun mu' H' c m' g => ?_, fun i H1 x H2 mu' hi c m' _ ⟨e, ys, d', y⟩ => ?_⟩
  · have hl : i < ys.length := by rw [← d'.length]; exact hi
    exact ⟨ys, ys[i], s, by simp [hl]⟩
  · exact ⟨ys, s, by rw [d'.length]; exact Nat.le_refl _⟩
  · obtain ⟨e, y⟩ := y
    exact ⟨e, ys, d', y ys s⟩
  · obtain ⟨ys, h1, h2⟩ := m' a _ g
    exact ⟨ys, SqL.of h1, h2⟩
  · subst e
    obtain ⟨w, h1, h2⟩ := d'.get y
    exact ⟨w, h1, Chg.refl, m', h2⟩
/-- the items of a tuple or a list -/
abbrev itemsW (w : W) (mu : Mu) (P : List W → (Mu → Prop) → Mu → Prop) : Prop := match w with
  | .tup ws => P ws (fun _ => True) mu
  | .m a => ∃ ws, mu a = some (.lst ws) ∧ P ws (fun mu' => mu' a = some (.lst ws)) mu
  | _ => False
theorem si_tup {tg iter : Expr} {Post : List W → (Mu → Prop) → Mu → Prop} (h : SE X iter G mu fun w mu1 => match w with | .tup ws => Post ws (fun _ => True) mu1 | _ => False) : SI X tg iter G mu Post :=
  SI.mk (pi_tup peE) fun σ H R d m k => h σ H _ d m fun v w mu1 H1 h1 c1 d1 m1 => by
    cases w with
    | tup ws =>
      obtain ⟨a, xs, e, s, d2⟩ := d1
      exact ⟨a, e, ⟨xs, s⟩, k _ _ _ _ _ h1 c1 m1 (itw_tup m1 s d2)⟩
    | _ => exact h1.elim
theorem si_lst {tg iter : Expr} {Post : List W → (Mu → Prop) → Mu → Prop} (h : SE X iter G mu fun w mu1 => match w with | .m a => ∃ ws, mu1 a = some (.lst ws) ∧ Post ws (fun mu' => mu' a = some (.lst ws)) mu1 | _ => False) : SI X tg iter G mu Post :=
  SI.mk (pi_list peE) fun σ H R d m k => h σ H _ d m fun v w mu1 H1 h1 c1 d1 m1 => by
    cases w with
    | m a =>
      obtain ⟨ws, h2, h3⟩ := h1
      obtain ⟨xs, hx, d2⟩ := m1 a _ h2
      have d1 : v = .ref a := d1
      subst d1
      exact ⟨a, rfl, ⟨xs, SqL.of hx⟩, k _ _ _ _ _ h3 c1 m1 (itw_lst m1 h2)⟩
    | _ => exact h1.elim
theorem itw_range {K : PySem.W.Frag} {H : Hp} {mu : Mu} {n : Nat} : ItW K (Itr 0 n) ((List.range n).map fun i => W.int (i : Nat)) (fun _ => True) mu H := by
  refine ⟨fun _ => True, YFn fun i => .int (0 + i), by rw [List.length_map, List.length_range]; exact walk_range, fun _ _ _ _ _ => trivial, fun i H1 x H2 mu' hi c m' _ ⟨e, y⟩ => ?_⟩
  subst e
  rw [List.length_map, List.length_range] at hi
  refine ⟨.int (i : Nat), by simp [hi], Chg.refl, m', ?_⟩
  have y : x = .int (0 + (i : Nat)) := y
  show x = .int (i : Nat)
  rw [y]
  congr 1
  omega
theorem si_range {tg : Expr} {p : Pos} {Post : List W → (Mu → Prop) → Mu → Prop} (h : SE X a G mu fun w mu1 => match w with | .int j => -(2 ^ 62) ≤ j ∧ j < 2 ^ 62 ∧ Post ((List.range j.toNat).map fun i => W.int (i : Nat)) (fun _ => True) mu1 | _ => False)
    (hm : X.mg "range" = none) (hg : Gl X "range" := by rfl) (hs : starEach [a] X.env = [(false, eval a X.env)] := by rfl) : SI X tg (.Call (.Name "range" p) [a] [] pos) G mu Post :=
  SI.mk (pi_range1 hg hm (pa_cons peE pa_nil hs) hs) fun σ H R d m k => h σ H _ d m fun v w mu1 H1 h1 c1 d1 m1 => by
    cases w with
    | int j =>
      have d1 : v = .int j := d1
      subst d1
      exact ⟨j, rfl, h1.1, h1.2.1, k _ _ _ _ _ h1.2.2 c1 m1 itw_range⟩
    | _ => exact h1.elim

/-- for: I by the turn, the names, the cells -/
theorem ss_for {tg iter : Expr} {body : List Stmt} {E : WE} (hp : PassesOwn (model X.prog X.w) X.A X.env X.xe) (hc : X.calm = true) (hf : ∀ x, foldedSetIterable iter X.env x = pure x)
    (h : SI X tg iter G mu fun ws Gm mu1 => ∃ I : Nat → Gs → Mu → Prop, I 0 G mu1 ∧ (∀ i G' mu', i ≤ ws.length → I i G' mu' → Gm mu') ∧
      (∀ i w G' mu', ws[i]? = some w → I i G' mu' → SG X tg w G' mu' fun G2 mu2 => SSs X body G2 mu2 { E with nx := I (i + 1), ct := I (i + 1), bk := E.nx }) ∧ ∀ G' mu', I ws.length G' mu' → E.nx G' mu') : SS X (.For tg iter body [] pos) G mu E :=
  SS.mk (ps_for hp hc piI pgG pssS hf) fun σ H D d m k => h σ H _ d m fun J ws Gm mu1 H1 ⟨I, i0, ig, it, ie⟩ c1 m1 ⟨Gh, Y, wk, hg, hy⟩ =>
    for_it wk (fun i σ' H' => ∃ G' mu', I i G' mu' ∧ Chg mu1 H1 mu' H' ∧ DenG X.K H' G' σ' ∧ HM X.K H' mu') ⟨G, mu1, i0, Chg.refl, c1.denG m d, m1⟩
      (fun i σ' H' hi ⟨G', mu', q, c2, d2, m2⟩ => hg mu' H' c2 m2 (ig i G' mu' hi q))
      (fun i x σ' H' H'' hi ⟨G', mu', q, c2, d2, m2⟩ y => by
        obtain ⟨w, hw, c3, m3, d3⟩ := hy i H' x H'' mu' hi c2 m2 (ig i G' mu' (Nat.le_of_lt hi) q) y
        refine it i w G' mu' hw q σ' H'' x _ (c3.denG m2 d2) m3 d3 fun σ2 G2 mu2 H2 h2 c4 d4 m4 => ?_
        have cc := (c2.trans c3).trans c4
        exact h2 σ2 H2 _ d4 m4 ⟨fun σ3 G3 mu3 H3 h3 c5 d5 m5 => ⟨G3, mu3, h3, cc.trans c5, d5, m5⟩, k.rt.step (c1.trans cc), k.nx.step (c1.trans cc), fun σ3 G3 mu3 H3 h3 c5 d5 m5 => ⟨G3, mu3, h3, cc.trans c5, d5, m5⟩⟩)
      fun σ' H' ⟨G', mu', q, c2, d2, m2⟩ => k.nx _ _ _ _ (ie G' mu' q) (c1.trans c2) d2 m2

/-! ### targets of a comprehension -/
inductive Tg where
  | nm (i : Nat)
  | tp (ts : List Tg)
mutual
def gT (K : PySem.W.Frag) : Tg → TG
  | .nm i => gName i
  | .tp ts => gTup K ts.length (gTs K ts)
def gTs (K : PySem.W.Frag) : List Tg → TGs
  | [] => gNil
  | t :: ts => gCons (gT K t) (gTs K ts)
end
mutual
def Tg.bind : Tg → W → Gs → Option Gs
  | .nm i, w, G => some (G.set i (some w))
  | .tp ts, .tup ws, G => Tg.binds ts ws G
  | .tp _, _, _ => none
def Tg.binds : List Tg → List W → Gs → Option Gs
  | [], [], G => some G
  | t :: ts, w :: ws, G => (Tg.bind t w G).bind fun G1 => Tg.binds ts ws G1
  | _, _, _ => none
end
mutual
def Tg.all (p : Nat → Bool) : Tg → Bool
  | .nm i => p i
  | .tp ts => Tg.alls p ts
def Tg.alls (p : Nat → Bool) : List Tg → Bool
  | [] => true
  | t :: ts => Tg.all p t && Tg.alls p ts
end
def wipeG (G : Gs) : List Nat → Gs
  | [] => G
  | v :: vs => (wipeG G vs).set v none
theorem wipeG_den {K : PySem.W.Frag} {H : Hp} {G : Gs} {σ : St} (d : DenG K H G σ) : ∀ vs : List Nat, DenG K H (wipeG G vs) (wipe σ vs)
  | [] => d
  | v :: vs => by
    obtain ⟨hl, h⟩ := wipeG_den d vs
    refine ⟨by unfold wipeG wipe; rw [List.length_set, List.length_set]; exact hl, fun i w e => ?_⟩
    unfold wipeG at e
    unfold wipe
    by_cases q : v = i
    · subst q
      by_cases z : v < (wipeG G vs).length
      · rw [List.getElem?_set_self z] at e; cases e
      · rw [List.getElem?_eq_none (by simpa using z)] at e; cases e
    · rw [List.getElem?_set_ne q] at e
      rw [List.getElem?_set_ne q]
      exact h i w e
theorem wipe_set {σ : St} {i : Nat} {x : Option V} : ∀ {vs : List Nat}, i ∈ vs → wipe (σ.set i x) vs = wipe σ vs
  | v :: vs, h => by
    unfold wipe
    by_cases e : i ∈ vs
    · rw [wipe_set e]
    · have q : v = i := by
        rcases List.mem_cons.mp h with z | z
        · exact z.symm
        · exact absurd z e
      subst q
      have hn : ∀ us : List Nat, v ∉ us → wipe (σ.set v x) us = (wipe σ us).set v x := by
        intro us
        induction us with
        | nil => intro _; rfl
        | cons u us ih =>
          intro hu
          unfold wipe
          rw [ih fun z => hu (List.mem_cons_of_mem _ z)]
          exact List.set_comm _ _ fun z => hu (by rw [z]; exact List.mem_cons_self)
      rw [hn vs e, List.set_set]
mutual
theorem gT_run {K : PySem.W.Frag} {H : Hp} {vs : List Nat} {Q : St → Hp → Prop} : ∀ (T : Tg) {w : W} {v : V} {G G2 : Gs} {σ : St}, T.bind w G = some G2 → T.all (fun i => decide (i ∈ vs)) = true → DenG K H G σ → Den K H w v →
    (∀ σ2, DenG K H G2 σ2 → wipe σ2 vs = wipe σ vs → Q σ2 H) → gT K T v σ H Q
  | .nm i, w, v, G, G2, σ, hb, ha, d, dv, q => by
    simp only [Tg.bind, Option.some.injEq] at hb
    subst hb
    exact q _ (DenG.set d dv) (wipe_set (of_decide_eq_true ha))
  | .tp ts, .tup ws, v, G, G2, σ, hb, ha, d, dv, q => by
    obtain ⟨a, xs, e, s, dx⟩ := dv
    simp only [Tg.bind] at hb
    unfold Tg.all at ha
    unfold gT
    refine ⟨a, xs, e, s, ?_, gTs_run ts hb ha d dx q⟩
    rw [← dx.length]
    exact (binds_len ts hb).symm
  | .tp ts, .non, v, G, G2, σ, hb, ha, d, dv, q => by simp [Tg.bind] at hb
  | .tp ts, .bl _, v, G, G2, σ, hb, ha, d, dv, q => by simp [Tg.bind] at hb
  | .tp ts, .int _, v, G, G2, σ, hb, ha, d, dv, q => by simp [Tg.bind] at hb
  | .tp ts, .str _, v, G, G2, σ, hb, ha, d, dv, q => by simp [Tg.bind] at hb
  | .tp ts, .m _, v, G, G2, σ, hb, ha, d, dv, q => by simp [Tg.bind] at hb
theorem gTs_run {K : PySem.W.Frag} {H : Hp} {vs : List Nat} {Q : St → Hp → Prop} : ∀ (ts : List Tg) {ws : List W} {xs : List V} {G G2 : Gs} {σ : St}, Tg.binds ts ws G = some G2 → Tg.alls (fun i => decide (i ∈ vs)) ts = true → DenG K H G σ → DenAll K H ws xs →
    (∀ σ2, DenG K H G2 σ2 → wipe σ2 vs = wipe σ vs → Q σ2 H) → gTs K ts xs σ H Q
  | [], [], xs, G, G2, σ, hb, ha, d, dv, q => by
    simp only [Tg.binds, Option.some.injEq] at hb
    subst hb
    exact ⟨dv, q _ d rfl⟩
  | t :: ts, w :: ws, xs, G, G2, σ, hb, ha, d, dv, q => by
    obtain ⟨v, r, e, d1, d2⟩ := dv
    simp only [Tg.binds] at hb
    unfold Tg.alls at ha
    rw [Bool.and_eq_true] at ha
    cases hq : Tg.bind t w G with
    | none => rw [hq] at hb; simp at hb
    | some G1 =>
      rw [hq] at hb
      have hb : Tg.binds ts ws G1 = some G2 := hb
      unfold gTs
      exact ⟨v, r, e, gT_run t hq ha.1 d d1 fun σ1 d3 e3 => gTs_run ts hb ha.2 d3 d2 fun σ2 d4 e4 => q σ2 d4 (e4.trans e3)⟩
  | [], w :: ws, xs, G, G2, σ, hb, ha, d, dv, q => by simp [Tg.binds] at hb
  | t :: ts, [], xs, G, G2, σ, hb, ha, d, dv, q => by simp [Tg.binds] at hb
theorem binds_len : ∀ (ts : List Tg) {ws : List W} {G G2 : Gs}, Tg.binds ts ws G = some G2 → ts.length = ws.length
  | [], [], _, _, _ => rfl
  | t :: ts, w :: ws, G, G2, hb => by
    simp only [Tg.binds] at hb
    cases hq : Tg.bind t w G with
    | none => rw [hq] at hb; simp at hb
    | some G1 =>
      rw [hq] at hb
      have hb : Tg.binds ts ws G1 = some G2 := hb
      simp [binds_len ts hb]
  | [], w :: ws, G, G2, hb => by simp [Tg.binds] at hb
  | t :: ts, [], G, G2, hb => by simp [Tg.binds] at hb
end

theorem set_none_wipe {v : Nat} : ∀ {us : List Nat} {σ : St}, (wipe σ us).set v none = wipe (σ.set v none) us
  | [], σ => rfl
  | u :: us, σ => by
    unfold wipe
    rw [← set_none_wipe]
    by_cases h : u = v
    · subst h; rfl
    · exact List.set_comm _ _ h
theorem wipe_wipe {σ : St} : ∀ {us : List Nat}, wipe (wipe σ us) us = wipe σ us
  | [] => rfl
  | u :: us => by
    show (wipe ((wipe σ us).set u none) us).set u none = (wipe σ us).set u none
    rw [← set_none_wipe, wipe_wipe, List.set_set]
/-! ### comprehensions: I by the turn, what is made so far, the cells -/
/-- one turn's element: kept or not -/
abbrev tt0 : TT := tYes
theorem lc_rd {g : TG} {tt : TT} {te : TE} {tg iter : Expr} {vs : List Nat} {σ : St} {H : Hp} {Q : VK} {P : PW1} (d : DenG X.K H G σ) (m : HM X.K H mu) (k : Kont X.K mu H P Q)
    (h : SI X tg iter G mu fun ws Gm mu1 => ∀ D, mu1 D = none → ∃ I : Nat → List W → Mu → Prop, I 0 [] mu1 ∧ (∀ i acc mu', i ≤ ws.length → I i acc mu' → Gm mu') ∧
      (∀ i w acc mu', ws[i]? = some w → I i acc mu' → acc.length < sizeLine ∧ ∀ (σ' : St) (H' : Hp) (v : V) (R : Option V → Hp → Prop), DenG X.K H' (wipeG G vs) (wipe σ vs) → HM X.K H' mu' → Den X.K H' w v →
        (∀ r y mu4 H4, Chg mu' H' mu4 H4 → HM X.K H4 mu4 → Den X.K H4 r y → I (i + 1) (acc ++ [r]) mu4 → R (some y) H4) → (∀ mu4 H4, Chg mu' H' mu4 H4 → HM X.K H4 mu4 → I (i + 1) acc mu4 → R none H4) →
        g v (wipe σ vs) H' fun σ2 H2 => wipe σ2 vs = wipe σ vs ∧ tt σ2 H2 fun b H3 => if b = true then te σ2 H3 fun y H4 => R (some y) H4 else R none H3) ∧
      ∀ acc mu', I ws.length acc mu' → P (.m D) (setM mu' D (.lst acc))) : tLc (tI X tg iter) g tt te vs σ H Q := by
  refine h σ H _ d m fun J ws Gm mu1 H1 hI c1 m1 ⟨Gh, Y, wk, hg, hy⟩ D hD => ?_
  obtain ⟨I, i0, ig, it, ie⟩ := hI D (m1.dom hD)
  obtain ⟨c0, m0⟩ := laid (o := .lst []) m1 hD
  have dne : ∀ mu' H', Chg mu1 H1 mu' H' → ∀ b o, H1 b = some o → b ≠ D := fun _ _ _ b o e => ne_of_none e hD
  refine lc_it wk (fun i H' => ∃ acc mu' xs, I i acc mu' ∧ H' D = some (.lst xs) ∧ DenAll X.K H' acc xs ∧ mu' D = none ∧ HM X.K H' mu' ∧ Chg mu1 H1 mu' H') ⟨[], mu1, [], i0, upd_same, rfl, m1.dom hD, m0, c0⟩
    (fun i H' hi ⟨acc, mu', xs, q, _, _, _, m2, c2⟩ => hg mu' H' c2 m2 (ig i acc mu' hi q)) (fun i x H' H'' hi ⟨acc, mu', xs, q, hx, dx, nD, m2, c2⟩ y => ?_) fun H' ⟨acc, mu', xs, q, hx, dx, nD, m2, c2⟩ => ?_
  · obtain ⟨w, hw, c3, m3, d3⟩ := hy i H' x H'' mu' hi c2 m2 (ig i acc mu' (Nat.le_of_lt hi) q) y
    obtain ⟨hl, hh⟩ := it i w acc mu' hw q
    have dw : DenG X.K H'' (wipeG G vs) (wipe σ vs) := c3.denG m2 (c2.denG m1 (c1.denG m (wipeG_den d vs)))
    refine hh σ H'' x (fun oy H4 => match oy with
      | some y => ∃ acc', H4 D = some (.lst acc') ∧ acc'.length < sizeLine ∧ ∃ acc mu' xs, I (i + 1) acc mu' ∧ (upd H4 D (.lst (acc' ++ [y]))) D = some (.lst xs) ∧ DenAll X.K (upd H4 D (.lst (acc' ++ [y]))) acc xs ∧ mu' D = none ∧ HM X.K (upd H4 D (.lst (acc' ++ [y]))) mu' ∧ Chg mu1 H1 mu' (upd H4 D (.lst (acc' ++ [y])))
      | none => ∃ acc mu' xs, I (i + 1) acc mu' ∧ H4 D = some (.lst xs) ∧ DenAll X.K H4 acc xs ∧ mu' D = none ∧ HM X.K H4 mu' ∧ Chg mu1 H1 mu' H4) dw m3 d3 (fun r y mu4 H4 c4 m4 d4 q4 => ?_) fun mu4 H4 c4 m4 q4 => ?_
    · have hx3 := c3.keep _ _ hx nD
      have nD3 := nD
      have hx4 := c4.keep _ _ hx3 nD
      have nD4 := c4.new _ _ hx3 nD
      have dx4 := c4.denAll m3 (c3.denAll m2 dx)
      have sq : ∀ a ys, SqT X.K H4 a ys → SqT X.K (upd H4 D (.lst (xs ++ [y]))) a ys := fun a ys s => by
        rcases s with (s | ⟨o, s⟩) | s
        · exact .inl (.inl (by rw [upd_ne (ne_of s hx4 (by intro z; cases z))]; exact s))
        · exact .inl (.inr ⟨o, by rw [upd_ne (ne_of s hx4 (by intro z; cases z))]; exact s⟩)
        · exact .inr s
      refine ⟨xs, hx4, by rw [← dx4.length]; exact hl, acc ++ [r], mu4, xs ++ [y], q4, upd_same, DenAll.append (DenAll.mono sq _ dx4) ⟨y, [], rfl, Den.mono sq _ d4, rfl⟩, nD4, fun a cc ha => CellOk.mono sq (m4 a cc ha) (upd_ne fun z => by subst z; rw [nD4] at ha; cases ha), ?_⟩
      have cc := (c2.trans c3).trans c4
      exact ⟨fun b o e n => by rw [upd_ne (ne_of_none e hD)]; exact cc.keep b o e n, cc.old, cc.new⟩
    · have hx3 := c3.keep _ _ hx nD
      have hx4 := c4.keep _ _ hx3 nD
      exact ⟨acc, mu4, xs, q4, hx4, c4.denAll m3 (c3.denAll m2 dx), c4.new _ _ hx3 nD, m4, (c2.trans c3).trans c4⟩
  · refine k (.ref D) (.m D) (setM mu' D (.lst acc)) H' (ie acc mu' q) (c1.trans ⟨c2.keep, fun b cc e => ?_, fun b o e n => ?_⟩) rfl fun a cc ha => ?_
    · by_cases z : b = D
      · subst z; exact ⟨_, setM_same⟩
      · rw [setM_ne z]; exact c2.old b cc e
    · rw [setM_ne (ne_of_none e hD)]
      exact c2.new b o e n
    · by_cases z : a = D
      · subst z
        rw [setM_same] at ha
        cases ha
        exact ⟨xs, hx, dx⟩
      · rw [setM_ne z] at ha
        exact m2 a cc ha
/-- the element and the test of a block -/
structure Blk (X : Cx) (scope : Scope) (B : Cx → Prop) : Prop where
  all : ∀ (s : Shared) (H : Hp) (C : Addr) (cl : List (Str × Addr)) (fp : List Addr), B (X.blk s H scope (compEnvC scope cl C X.env) fp)
/-- what a comprehension without a test asks -/
abbrev lcPost (B : (Cx → Prop) → Prop) (T : Tg) (elt : Expr) (vs : List Nat) (G : Gs) (P : PW1) : List W → (Mu → Prop) → Mu → Prop := fun ws Gm mu1 => ∀ D, mu1 D = none → ∃ I : Nat → List W → Mu → Prop, I 0 [] mu1 ∧ (∀ i acc mu', i ≤ ws.length → I i acc mu' → Gm mu') ∧
  (∀ i w acc mu', ws[i]? = some w → I i acc mu' → acc.length < sizeLine ∧ ∃ G2, T.bind w (wipeG G vs) = some G2 ∧ B fun Y => SE Y elt G2 mu' fun r mu4 => I (i + 1) (acc ++ [r]) mu4) ∧ ∀ acc mu', I ws.length acc mu' → P (.m D) (setM mu' D (.lst acc))
abbrev lcPost1 (B : (Cx → Prop) → Prop) (T : Tg) (elt t : Expr) (vs : List Nat) (G : Gs) (P : PW1) : List W → (Mu → Prop) → Mu → Prop := fun ws Gm mu1 => ∀ D, mu1 D = none → ∃ I : Nat → List W → Mu → Prop, I 0 [] mu1 ∧ (∀ i acc mu', i ≤ ws.length → I i acc mu' → Gm mu') ∧
  (∀ i w acc mu', ws[i]? = some w → I i acc mu' → acc.length < sizeLine ∧ ∃ G2, T.bind w (wipeG G vs) = some G2 ∧ B fun Y => ST Y t G2 mu' fun b mu3 => if2 b (B fun Z => SE Z elt G2 mu3 fun r mu4 => I (i + 1) (acc ++ [r]) mu4) (I (i + 1) acc mu3)) ∧ ∀ acc mu', I ws.length acc mu' → P (.m D) (setM mu' D (.lst acc))
/-- in every block of a comprehension with this scope -/
def InBlk (X : Cx) (scope : Scope) (p : Cx → Prop) : Prop := ∀ (s : Shared) (H : Hp) (C : Addr) (cl : List (Str × Addr)) (fp : List Addr), p (X.blk s H scope (compEnvC scope cl C X.env) fp)
theorem lc_tur0 {scope : Scope} {own : List (Str × Nat)} {tg iter elt : Expr} (T : Tg) {P : PW1} {σ : St} {H : Hp} {Q : VK} (ha : T.all (fun i => decide (i ∈ own.map (·.2))) = true) (d : DenG X.K H G σ) (m : HM X.K H mu) (k : Kont X.K mu H P Q)
    (h : SI X tg iter G mu (lcPost (InBlk X scope) T elt (own.map (·.2)) G P)) :
    tLc (tI X tg iter) (gT X.K T) tYes (fun σ2 H2 Q2 => ∀ (s : Shared) (H : Hp) (C : Addr) (cl : List (Str × Addr)) (fp : List Addr), tE (X.blk s H scope (compEnvC scope cl C X.env) fp) elt σ2 H2 Q2) (own.map (·.2)) σ H Q := by
  refine lc_rd d m k (fun σ0 H0 R d0 m0 kk => h σ0 H0 R d0 m0 fun J ws Gm mu1 H1 hI c1 m1 iw => kk J ws Gm mu1 H1 (fun D hD => ?_) c1 m1 iw)
  obtain ⟨I, i0, ig, it, ie⟩ := hI D hD
  refine ⟨I, i0, ig, fun i w acc mu' hw q => ?_, ie⟩
  obtain ⟨hl, G2, hb, he⟩ := it i w acc mu' hw q
  refine ⟨hl, fun σ' H' v R dw m3 dv r1 r2 => gT_run T hb ha dw dv fun σ2 d2 e2 => ⟨e2.trans wipe_wipe, iteT (B := R none H') fun s Hs C cl fp => he s Hs C cl fp σ2 H' _ d2 m3 fun y r mu4 H4 q4 c4 d4 m4 => r1 r y mu4 H4 c4 m4 d4 q4⟩⟩
theorem lc_tur1 {scope : Scope} {own : List (Str × Nat)} {tg iter elt t : Expr} (T : Tg) {P : PW1} {σ : St} {H : Hp} {Q : VK} (ha : T.all (fun i => decide (i ∈ own.map (·.2))) = true) (d : DenG X.K H G σ) (m : HM X.K H mu) (k : Kont X.K mu H P Q)
    (h : SI X tg iter G mu (lcPost1 (InBlk X scope) T elt t (own.map (·.2)) G P)) :
    tLc (tI X tg iter) (gT X.K T) (fun σ2 H2 Q2 => ∀ (s : Shared) (H : Hp) (C : Addr) (cl : List (Str × Addr)) (fp : List Addr), tT (X.blk s H scope (compEnvC scope cl C X.env) fp) t σ2 H2 Q2)
      (fun σ2 H2 Q2 => ∀ (s : Shared) (H : Hp) (C : Addr) (cl : List (Str × Addr)) (fp : List Addr), tE (X.blk s H scope (compEnvC scope cl C X.env) fp) elt σ2 H2 Q2) (own.map (·.2)) σ H Q := by
  refine lc_rd d m k (fun σ0 H0 R d0 m0 kk => h σ0 H0 R d0 m0 fun J ws Gm mu1 H1 hI c1 m1 iw => kk J ws Gm mu1 H1 (fun D hD => ?_) c1 m1 iw)
  obtain ⟨I, i0, ig, it, ie⟩ := hI D hD
  refine ⟨I, i0, ig, fun i w acc mu' hw q => ?_, ie⟩
  obtain ⟨hl, G2, hb, he⟩ := it i w acc mu' hw q
  refine ⟨hl, fun σ' H' v R dw m3 dv r1 r2 => gT_run T hb ha dw dv fun σ2 d2 e2 => ⟨e2.trans wipe_wipe, fun s Hs C cl fp => he s Hs C cl fp σ2 H' _ d2 m3 fun b mu3 H3 hb3 c3 m3' => ?_⟩⟩
  cases b with
  | true => exact iteT (B := R none H3) fun s Hs C cl fp => (show InBlk X scope _ from hb3) s Hs C cl fp σ2 H3 _ (c3.denG m3 d2) m3' fun y r mu4 H4 q4 c4 d4 m4 => r1 r y mu4 H4 (c3.trans c4) m4 d4 q4
  | false => exact iteF (A := ∀ (s : Shared) (H : Hp) (C : Addr) (cl : List (Str × Addr)) (fp : List Addr), tE (X.blk s H scope (compEnvC scope cl C X.env) fp) elt σ2 H3 fun y H4 => R (some y) H4) (r2 mu3 H3 c3 m3' hb3)
theorem se_lc {scope : Scope} {own : List (Str × Nat)} {tg iter elt : Expr} (T : Tg) (hc : X.calm = true) (hN : X.N.Nodup) (ok : BlkOk X.N X.env.scope scope own) (ha : T.all (fun i => decide (i ∈ own.map (·.2))) = true)
    (hg : ∀ (s : Shared) (H : Hp) (C : Addr) (cl : List (Str × Addr)) (fp : List Addr), PG (X.blk s H scope (compEnvC scope cl C X.env) fp) tg (gT X.K T)) (hs : ∀ x, foldedSetIterable iter X.env x = pure x)
    (h : SI X tg iter G mu (lcPost (InBlk X scope) T elt (own.map (·.2)) G P)) : SE X (.ListComp elt [⟨tg, iter, [], 0⟩] scope pos) G mu P :=
  SE.mk (pe_lc hc hN piI ok hg (fun _ _ _ _ _ => pts_nil) (fun s H C cl fp => ⟨fun pins s' σ H' Q I h => h s H C cl fp pins s' I⟩) hs) fun σ H Q d m k => lc_tur0 T ha d m k h
theorem se_lc1 {scope : Scope} {own : List (Str × Nat)} {tg iter elt t : Expr} (T : Tg) (hc : X.calm = true) (hN : X.N.Nodup) (ok : BlkOk X.N X.env.scope scope own) (ha : T.all (fun i => decide (i ∈ own.map (·.2))) = true)
    (hg : ∀ (s : Shared) (H : Hp) (C : Addr) (cl : List (Str × Addr)) (fp : List Addr), PG (X.blk s H scope (compEnvC scope cl C X.env) fp) tg (gT X.K T)) (hs : ∀ x, foldedSetIterable iter X.env x = pure x)
    (h : SI X tg iter G mu (lcPost1 (InBlk X scope) T elt t (own.map (·.2)) G P)) : SE X (.ListComp elt [⟨tg, iter, [t], 0⟩] scope pos) G mu P :=
  SE.mk (pe_lc hc hN piI ok hg (fun s H C cl fp => pts_one ⟨fun pins s' σ H' Q I h => h s H C cl fp pins s' I⟩) (fun s H C cl fp => ⟨fun pins s' σ H' Q I h => h s H C cl fp pins s' I⟩) hs) fun σ H Q d m k => lc_tur1 T ha d m k h
theorem ss_setlc {E : WE} {i : Nat} {y : Str} {py spos : Pos} {scope : Scope} {own : List (Str × Nat)} {tg iter elt : Expr} (T : Tg) (hc : X.calm = true) (hN : X.N.Nodup) (hy : X.N[i]? = some y) (hyl : X.env.scope.names.lookup y = some .local)
    (hsw : swapsWith (.ListComp elt [⟨tg, iter, [], 0⟩] scope pos) (some (.Name y py)) spos.line X.env = pure true) (ok : BlkOk X.N X.env.scope scope own) (ha : T.all (fun i => decide (i ∈ own.map (·.2))) = true)
    (hg : ∀ (s : Shared) (H : Hp) (C : Addr) (cl : List (Str × Addr)) (fp : List Addr), PG (X.blk s H scope (compEnvC scope cl C X.env) fp) tg (gT X.K T)) (hs : ∀ x, foldedSetIterable iter X.env x = pure x)
    (h : SI X tg iter G mu (lcPost (InBlk X scope) T elt (own.map (·.2)) G fun w mu1 => E.nx (G.set i (some w)) mu1)) : SS X (.Assign [.Name y py] (.ListComp elt [⟨tg, iter, [], 0⟩] scope pos) spos) G mu E :=
  SS.mk (ps_setLc hc hN hy hyl hsw piI ok hg (fun _ _ _ _ _ => pts_nil) (fun s H C cl fp => ⟨fun pins s' σ H' Q I h => h s H C cl fp pins s' I⟩) hs) fun σ H D d m k =>
    lc_tur0 (P := fun w mu1 => E.nx (G.set i (some w)) mu1) T ha d m (fun v w mu1 H1 h1 c1 d1 m1 => k.nx _ _ _ _ h1 c1 (DenG.set (c1.denG m d) d1) m1) h
theorem ss_setlc1 {E : WE} {i : Nat} {y : Str} {py spos : Pos} {scope : Scope} {own : List (Str × Nat)} {tg iter elt t : Expr} (T : Tg) (hc : X.calm = true) (hN : X.N.Nodup) (hy : X.N[i]? = some y) (hyl : X.env.scope.names.lookup y = some .local)
    (hsw : swapsWith (.ListComp elt [⟨tg, iter, [t], 0⟩] scope pos) (some (.Name y py)) spos.line X.env = pure true) (ok : BlkOk X.N X.env.scope scope own) (ha : T.all (fun i => decide (i ∈ own.map (·.2))) = true)
    (hg : ∀ (s : Shared) (H : Hp) (C : Addr) (cl : List (Str × Addr)) (fp : List Addr), PG (X.blk s H scope (compEnvC scope cl C X.env) fp) tg (gT X.K T)) (hs : ∀ x, foldedSetIterable iter X.env x = pure x)
    (h : SI X tg iter G mu (lcPost1 (InBlk X scope) T elt t (own.map (·.2)) G fun w mu1 => E.nx (G.set i (some w)) mu1)) : SS X (.Assign [.Name y py] (.ListComp elt [⟨tg, iter, [t], 0⟩] scope pos) spos) G mu E :=
  SS.mk (ps_setLc hc hN hy hyl hsw piI ok hg (fun s H C cl fp => pts_one ⟨fun pins s' σ H' Q I h => h s H C cl fp pins s' I⟩) (fun s H C cl fp => ⟨fun pins s' σ H' Q I h => h s H C cl fp pins s' I⟩) hs) fun σ H D d m k =>
    lc_tur1 (P := fun w mu1 => E.nx (G.set i (some w)) mu1) T ha d m (fun v w mu1 H1 h1 c1 d1 m1 => k.nx _ _ _ _ h1 c1 (DenG.set (c1.denG m d) d1) m1) h
end
end Dv
set_option Elab.async false
set_option linter.all false
set_option maxRecDepth 100000
/-! Calls of defs and of built-ins by values; data. -/
namespace Dv
open PySem L2

/-! ### defs -/
/-- a def's promise by values -/
abbrev SpW := List W → Mu → PW1 → Prop
def spW (K : PySem.W.Frag) (S : SpW) : Sp := fun vs H Q _ => ∃ ws mu P, S ws mu P ∧ DenAll K H ws vs ∧ HM K H mu ∧ Kont K mu H P Q
def startW (N : List Str) (ws : List W) : Gs := ws.map some ++ List.replicate (N.length - ws.length) none
theorem start_den {K : PySem.W.Frag} {H : Hp} {N : List Str} {ws : List W} {vs : List V} (d : DenAll K H ws vs) : DenG K H (startW N ws) (L2.start N vs) := by
  have hl := d.length
  refine ⟨by unfold startW L2.start; simp [hl], fun i w h => ?_⟩
  unfold startW at h
  unfold L2.start
  by_cases z : i < ws.length
  · rw [List.getElem?_append_left (by simpa using z), List.getElem?_map] at h
    cases e : ws[i]? with
    | none => rw [e] at h; cases h
    | some w' =>
      rw [e] at h
      cases h
      obtain ⟨v, h1, h2⟩ := d.get' e
      exact ⟨v, by rw [List.getElem?_append_left (by simpa [← hl] using z), List.getElem?_map, h1]; rfl, h2⟩
  · rw [List.getElem?_append_right (by simpa using z)] at h
    rw [List.getElem?_replicate] at h
    split at h <;> simp at h
section
variable {P : Program} {w : World} {K : PySem.W.Frag} {mg : Str → Option Value} {base : Heap}
theorem okW {x qual : Str} {st : Stmt} {f : Addr} {fd : FuncData} {N ps : List Str} {k : Nat} {S : SpW} (F : Fun K x qual st f fd) (Sc : FnScope N ps (defScope st)) (len : ∀ ws mu P, S ws mu P → ws.length = ps.length)
    (body : ∀ (cdv : Value) (A : Around) (outer : List Env) (s : Shared) (H : Hp) (E : XK), Room k (A.deeper (PyProof.Rows.envOfC qual (defScope st) s.heap.objs.size f cdv)) → ∀ ws mu Pt, S ws mu Pt →
      SSs (cxOf CX0 P w K mg base N qual (defScope st) f cdv A outer s H E).nox (defBody st) (startW N ws) mu { nx := fun _ mu' => Pt .non mu', rt := Pt }) : FnOk P w K mg base CX0 (k + 1) f fd ps (spW K S) :=
  F.ok Sc (fun vs H Q E ⟨ws, mu, Pt, h, d, _, _⟩ => d.length ▸ len ws mu Pt h) fun cdv A outer s H vs Q E hr ⟨ws, mu, Pt, h, d, m, k⟩ =>
    ⟨_, pssS, body cdv A outer s H E hr ws mu Pt h _ _ _ (start_den d) m ⟨fun σ G mu' H' h' c d' m' => k .non .non mu' H' h' c rfl m', k, fun _ _ _ _ h => h.elim, fun _ _ _ _ h => h.elim⟩⟩
end
section
variable {X : Cx} {e a b c : Expr} {es : List Expr} {st : Stmt} {sts : List Stmt} {G : Gs} {mu mu' : Mu} {pos p : Pos} {P : PW1}
theorem se_call {k : Nat} {f : Addr} {fd : FuncData} {ps : List Str} {S : SpW} {x : Str} (F : FnOk X.prog X.w X.K X.mg X.base CX0 k f fd ps (spW X.K S)) (hr : Room k X.A) (hm : X.mg x = some (.ref f)) (hk : PySem.W.keepIn X.K (.ref f) = true) (hb : Binds X.K fd ps [])
    (h : SA X (e :: es) G mu fun ws mu1 => S ws mu1 P) (hg : Gl X x := by rfl) (hdb : (x == ("__debug__" : Str)) = false := by decide) (he : starEach (e :: es) X.env = (false, eval e X.env) :: starEach es X.env := by rfl) (hpl : (backTo pos (starEach es X.env)).any (·.1) = false := by rfl) :
    SE X (.Call (.Name x p) (e :: es) [] pos) G mu P :=
  SE.mk (pe_call F hr hg hm hk hb .nil pass0 paA hdb he hpl) fun σ H Q d m k => h σ H _ d m fun vs ws mu1 H1 h1 c1 d1 m1 => ⟨ws, mu1, P, h1, by rw [List.append_nil]; exact d1, m1, k.step c1⟩

/-! ### built-ins called by their name -/
/-- a built-in's rule by values -/
def CallW (X : Cx) (r : List V → Hp → VK → Prop) (f : List W → Mu → PW1 → Prop) : Prop := ∀ ws vs mu H P Q, DenAll X.K H ws vs → HM X.K H mu → f ws mu P → Kont X.K mu H P Q → r vs H Q
theorem se_blt {x : Str} {id : String} {r : List V → Hp → VK → Prop} {f : List W → Mu → PW1 → Prop} (hc : CallR X (.builtin id) r) (hw : CallW X r f) (hm : X.mg x = none) (h : SA X (e :: es) G mu fun ws mu1 => f ws mu1 P)
    (hv : bootBuiltins x = some (.builtin id) := by decide +kernel) (hg : Gl X x := by rfl) (hn : x ≠ "__name__" := by decide) (hdb : (x == ("__debug__" : Str)) = false := by decide)
    (he : starEach (e :: es) X.env = (false, eval e X.env) :: starEach es X.env := by rfl) (hpl : (backTo pos (starEach es X.env)).any (·.1) = false := by rfl) : SE X (.Call (.Name x p) (e :: es) [] pos) G mu P :=
  SE.mk (pe_callB hc hg hm hv paA hn hdb he hpl) fun σ H Q d m k => h σ H _ d m fun vs ws mu1 H1 h1 c1 d1 m1 => hw _ _ _ _ _ _ d1 m1 h1 (k.step c1)
theorem se_bty {x : Str} {T : String} {r : List V → Hp → VK → Prop} {f : List W → Mu → PW1 → Prop} (hc : CallR X (.type T) r) (hw : CallW X r f) (hm : X.mg x = none) (h : SA X (e :: es) G mu fun ws mu1 => f ws mu1 P)
    (hv : bootBuiltins x = some (.type T) := by decide +kernel) (hg : Gl X x := by rfl) (hn : x ≠ "__name__" := by decide) (hdb : (x == ("__debug__" : Str)) = false := by decide)
    (he : starEach (e :: es) X.env = (false, eval e X.env) :: starEach es X.env := by rfl) (hpl : (backTo pos (starEach es X.env)).any (·.1) = false := by rfl) : SE X (.Call (.Name x p) (e :: es) [] pos) G mu P :=
  SE.mk (pe_callTy hc hg hm hv paA hn hdb he hpl) fun σ H Q d m k => h σ H _ d m fun vs ws mu1 H1 h1 c1 d1 m1 => hw _ _ _ _ _ _ d1 m1 h1 (k.step c1)
/-- a built-in's name as a value (a class for isinstance) -/
abbrev lenW (ws : List W) (mu : Mu) (P : PW1) : Prop := match ws with
  | [.str s] => s.length ≤ sizeLine ∧ P (.int s.length) mu
  | [.tup ws] => P (.int ws.length) mu
  | [.m a] => ∃ ws, mu a = some (.lst ws) ∧ P (.int ws.length) mu
  | _ => False
theorem DenAll.one {K : PySem.W.Frag} {H : Hp} {w : W} {vs : List V} (d : DenAll K H [w] vs) : ∃ v, vs = [v] ∧ Den K H w v := by
  obtain ⟨v, r, e, d1, d2⟩ := d
  have d2 : r = [] := d2
  subst d2
  exact ⟨v, e, d1⟩
theorem DenAll.two {K : PySem.W.Frag} {H : Hp} {w w' : W} {vs : List V} (d : DenAll K H [w, w'] vs) : ∃ v v', vs = [v, v'] ∧ Den K H w v ∧ Den K H w' v' := by
  obtain ⟨v, r, e, d1, d2⟩ := d
  obtain ⟨v', e2, d3⟩ := DenAll.one d2
  subst e2
  exact ⟨v, v', e, d1, d3⟩
theorem len_w : CallW X (fun xs H Q => ∃ x n, xs = [x] ∧ LenV X.K x H n ∧ Q (.int n) H) lenW := fun ws vs mu H P Q d m h k => by
  unfold lenW at h
  split at h
  · rename_i s
    obtain ⟨v, rfl, dv⟩ := d.one
    have dv : v = .str s := dv
    subst dv
    exact ⟨_, s.length, rfl, ⟨h.1, rfl⟩, k.now h.2 rfl m⟩
  · rename_i ws
    obtain ⟨v, rfl, a, xs, rfl, s, dx⟩ := d.one
    exact ⟨_, ws.length, rfl, .inr ⟨xs, s, dx.length⟩, k.now h rfl m⟩
  · rename_i a
    obtain ⟨ws, h1, h2⟩ := h
    obtain ⟨v, rfl, dv⟩ := d.one
    have dv : v = .ref a := dv
    subst dv
    obtain ⟨xs, hx, dx⟩ := m a _ h1
    exact ⟨_, ws.length, rfl, .inl ⟨xs, SqL.of hx, dx.length⟩, k.now h2 rfl m⟩
  · exact h.elim
theorem se_len (h : SE X e G mu fun w mu1 => lenW [w] mu1 P) (hm : X.mg "len" = none) (hg : Gl X "len" := by rfl) (hs : starEach [e] X.env = [(false, eval e X.env)] := by rfl) (hpl : (backTo pos (starEach [] X.env)).any (·.1) = false := by rfl) : SE X (.Call (.Name "len" p) [e] [] pos) G mu P :=
  se_blt call_len len_w hm (sa_cons (fun σ H Q d m k => h σ H Q d m fun v w mu1 H1 h1 c1 d1 m1 => k v w mu1 H1 (fun σ2 H2 Q2 d2 m2 k2 => sa_nil h1 σ2 H2 Q2 d2 m2 k2) c1 d1 m1) hs) PySem.boot_len hg (by decide) (by decide) hs hpl
/-- one argument, as a call's arguments -/
theorem sa_one {P : List W → Mu → Prop} (h : SE X e G mu fun w mu1 => P [w] mu1) (hs : starEach [e] X.env = [(false, eval e X.env)] := by rfl) : SA X [e] G mu P :=
  sa_cons (fun σ H Q d m k => h σ H Q d m fun v w mu1 H1 h1 c1 d1 m1 => k v w mu1 H1 (sa_nil h1) c1 d1 m1) hs
theorem sa_two {P : List W → Mu → Prop} (h : SE X a G mu fun w mu1 => SE X b G mu1 fun w2 mu2 => P [w, w2] mu2) (hs : starEach [a, b] X.env = (false, eval a X.env) :: starEach [b] X.env := by rfl) (hs2 : starEach [b] X.env = [(false, eval b X.env)] := by rfl) : SA X [a, b] G mu P :=
  sa_cons (fun σ H Q d m k => h σ H Q d m fun v w mu1 H1 h1 c1 d1 m1 => k v w mu1 H1 (sa_one h1 hs2) c1 d1 m1) hs
/-! all, any of a list of bools -/
theorem denAll_bl {K : PySem.W.Frag} {H : Hp} : ∀ {bs : List Bool} {vs : List V}, DenAll K H (bs.map W.bl) vs → vs = bs.map V.bl
  | [], _, d => d
  | b :: bs, _, ⟨v, r, e, d1, d2⟩ => by
    have d1 : v = .bl b := d1
    subst e d1
    rw [denAll_bl d2]
    rfl
theorem denAll_str {K : PySem.W.Frag} {H : Hp} : ∀ {bs : List Str} {vs : List V}, DenAll K H (bs.map W.str) vs → vs = bs.map V.str
  | [], _, d => d
  | b :: bs, _, ⟨v, r, e, d1, d2⟩ => by
    have d1 : v = .str b := d1
    subst e d1
    rw [denAll_str d2]
    rfl
abbrev allW (ws : List W) (mu : Mu) (P : PW1) : Prop := match ws with | [.m a] => ∃ bs : List Bool, mu a = some (.lst (bs.map W.bl)) ∧ P (.bl (bs.all id)) mu | _ => False
abbrev anyW (ws : List W) (mu : Mu) (P : PW1) : Prop := match ws with | [.m a] => ∃ bs : List Bool, mu a = some (.lst (bs.map W.bl)) ∧ P (.bl (bs.any id)) mu | _ => False
theorem all_w : CallW X (rAll X.K) allW := fun ws vs mu H P Q d m h k => by
  unfold allW at h
  split at h
  · rename_i a
    obtain ⟨bs, h1, h2⟩ := h
    obtain ⟨v, rfl, dv⟩ := d.one
    have dv : v = .ref a := dv
    subst dv
    obtain ⟨xs, hx, dx⟩ := m a _ h1
    rw [denAll_bl dx] at hx
    exact ⟨a, bs, rfl, SqL.of hx, k.now h2 rfl m⟩
  · exact h.elim
theorem any_w : CallW X (rAny X.K) anyW := fun ws vs mu H P Q d m h k => by
  unfold anyW at h
  split at h
  · rename_i a
    obtain ⟨bs, h1, h2⟩ := h
    obtain ⟨v, rfl, dv⟩ := d.one
    have dv : v = .ref a := dv
    subst dv
    obtain ⟨xs, hx, dx⟩ := m a _ h1
    rw [denAll_bl dx] at hx
    exact ⟨a, bs, rfl, SqL.of hx, k.now h2 rfl m⟩
  · exact h.elim
/-! tuple(list) -/
abbrev tupleW (ws : List W) (mu : Mu) (P : PW1) : Prop := match ws with | [.m a] => ∃ ws, mu a = some (.lst ws) ∧ P (.tup ws) mu | [.tup ws] => P (.tup ws) mu | _ => False
theorem tuple_w : CallW X (fun xs H Q => ∃ p ys, xs = [.ref p] ∧ ((SqL X.K H p ys ∧ ∀ l, H l = none → Q (.ref l) (upd H l (.tup ys))) ∨ (SqT X.K H p ys ∧ Q (.ref p) H))) tupleW := fun ws vs mu H P Q d m h k => by
  unfold tupleW at h
  split at h
  · rename_i a
    obtain ⟨ws, h1, h2⟩ := h
    obtain ⟨v, rfl, dv⟩ := d.one
    have dv : v = .ref a := dv
    subst dv
    obtain ⟨xs, hx, dx⟩ := m a _ h1
    refine ⟨a, xs, rfl, .inl ⟨SqL.of hx, fun l hl => ?_⟩⟩
    obtain ⟨c2, m2⟩ := laid (o := .tup xs) m hl
    exact k _ _ mu _ h2 c2 ⟨l, xs, rfl, SqT.of upd_same, c2.denAll m dx⟩ m2
  · rename_i ws
    obtain ⟨v, rfl, a, xs, rfl, s, dx⟩ := d.one
    exact ⟨a, xs, rfl, .inr ⟨s, k.now h ⟨a, xs, rfl, s, dx⟩ m⟩⟩
  · exact h.elim
/-! list(list or tuple) -/
abbrev listW (ws : List W) (mu : Mu) (P : PW1) : Prop := match ws with
  | [.m a] => ∃ ws, mu a = some (.lst ws) ∧ ∀ p, mu p = none → P (.m p) (setM mu p (.lst ws))
  | [.tup ws] => ∀ p, mu p = none → P (.m p) (setM mu p (.lst ws))
  | _ => False
theorem list_w : CallW X (fun xs H Q => ∃ p ys, xs = [.ref p] ∧ (SqL X.K H p ys ∨ SqT X.K H p ys) ∧ ∀ l, H l = none → Q (.ref l) (upd H l (.lst ys))) listW := fun ws vs mu H P Q d m h k => by
  unfold listW at h
  split at h
  · rename_i a
    obtain ⟨ws, h1, h2⟩ := h
    obtain ⟨v, rfl, dv⟩ := d.one
    have dv : v = .ref a := dv
    subst dv
    obtain ⟨xs, hx, dx⟩ := m a _ h1
    refine ⟨a, xs, rfl, .inl (SqL.of hx), fun l hl => ?_⟩
    obtain ⟨c2, m2⟩ := laidC (o := .lst xs) (c := .lst ws) m hl (newLst dx)
    exact k _ _ _ _ (h2 l (m.dom hl)) c2 rfl m2
  · rename_i ws
    obtain ⟨v, rfl, a, xs, rfl, s, dx⟩ := d.one
    refine ⟨a, xs, rfl, .inr s, fun l hl => ?_⟩
    obtain ⟨c2, m2⟩ := laidC (o := .lst xs) (c := .lst ws) m hl (newLst dx)
    exact k _ _ _ _ (h l (m.dom hl)) c2 rfl m2
  · exact h.elim
/-! isinstance -/
def tyN (mu : Mu) : W → Option String
  | .non => some "NoneType"
  | .bl _ => some "bool"
  | .int _ => some "int"
  | .str _ => some "str"
  | .tup _ => some "tuple"
  | .m a => match mu a with
    | some (.lst _) => some "list"
    | some (.dic _) => some "dict"
    | _ => none
theorem tyN_ok {K : PySem.W.Frag} {H : Hp} {w : W} {v : V} {n : String} (d : Den K H w v) (m : HM K H mu) (h : tyN mu w = some n) : TyX K H v (.type n) := by
  cases w with
  | non => cases h; have d : v = .non := d; subst d; exact .base .non
  | bl b => cases h; have d : v = .bl b := d; subst d; exact .base (.bl b)
  | int b => cases h; have d : v = .int b := d; subst d; exact .base (.int b)
  | str b => cases h; have d : v = .str b := d; subst d; exact .base (.str b)
  | tup ws =>
    cases h
    obtain ⟨a, xs, rfl, s, dx⟩ := d
    rcases s with (s | ⟨o, s⟩) | ⟨o, its, n, s, hc, _⟩
    · exact .base (.tup s)
    · exact .fTuple s
    · exact .kTuple s hc
  | m a =>
    have d : v = .ref a := d
    subst d
    have h : (match mu a with | some (.lst _) => some "list" | some (.dic _) => some "dict" | _ => none) = some n := h
    cases e : mu a with
    | none => rw [e] at h; cases h
    | some c =>
      rw [e] at h
      cases c with
      | lst ws => cases h; obtain ⟨xs, hx, _⟩ := m a _ e; exact .base (.lst hx)
      | dic ws => cases h; obtain ⟨xs, hx, _⟩ := m a _ e; exact .base (.dK hx)
      | ins Cl fs => cases h
theorem se_isi {q : Pos} {x : Str} {T : String} (h : SE X e G mu fun w mu1 => ∃ n r, tyN mu1 w = some n ∧ kitB n T = some r ∧ P (.bl r) mu1) (hm : X.mg "isinstance" = none) (hmx : X.mg x = none) (hv : bootBuiltins x = some (.type T) := by decide +kernel)
    (hg : Gl X "isinstance" := by rfl) (hgx : Gl X x := by rfl) (hnx : x ≠ "__name__" := by decide) (hdx : (x == ("__debug__" : Str)) = false := by decide) (hs : starEach [e, .Name x q] X.env = (false, eval e X.env) :: starEach [.Name x q] X.env := by rfl)
    (hs2 : starEach [.Name x q] X.env = [(false, eval (.Name x q) X.env)] := by rfl) (hpl : (backTo pos (starEach [.Name x q] X.env)).any (·.1) = false := by rfl) : SE X (.Call (.Name "isinstance" p) [e, .Name x q] [] pos) G mu P :=
  SE.mk (pe_callB call_isi hg hm (by decide +kernel) (pa_cons peE (pa_cons (pe_bltn (v := .ty T) hgx hmx hv rfl hnx hdx) pa_nil hs2) hs) (by decide) (by decide) hs hpl) fun σ H Q d m k =>
    h σ H _ d m fun v w mu1 H1 ⟨n, r, h1, h2, h3⟩ c1 d1 m1 => ⟨v, .ty T, .type n, .type T, r, rfl, .ty T, tyN_ok d1 m1 h1, kit_ty h2, k _ _ _ _ h3 c1 rfl m1⟩
end
end Dv
set_option Elab.async false
set_option linter.all false
set_option maxRecDepth 100000
/-! Data: comparisons, membership, order; subscripts and slices; zip. -/
namespace Dv
open PySem L2
mutual
def dat : W → PyData
  | .non => .none
  | .bl b => .bool b
  | .int i => .int i
  | .str x => .str x
  | .tup ws => .tuple (dats ws)
  | .m _ => .none
def dats : List W → List PyData
  | [] => []
  | w :: ws => dat w :: dats ws
end
mutual
def plW : W → Bool
  | .m _ => false
  | .tup ws => plsW ws
  | _ => true
def plsW : List W → Bool
  | [] => true
  | w :: ws => plW w && plsW ws
end
section
variable {K : PySem.W.Frag} {H : Hp}
mutual
theorem Den.dp : ∀ (w : W) {v : V}, plW w = true → Den K H w v → Dp K H v (dat w)
  | .non, _, _, d => by have d : _ = _ := d; subst d; exact .non
  | .bl b, _, _, d => by have d : _ = _ := d; subst d; exact .bl b
  | .int b, _, _, d => by have d : _ = _ := d; subst d; exact .int b
  | .str b, _, _, d => by have d : _ = _ := d; subst d; exact .str b
  | .tup ws, _, p, ⟨a, xs, e, s, dx⟩ => by subst e; unfold dat; exact .tup s (DenAll.dp ws (by unfold plW at p; exact p) dx)
  | .m _, _, p, _ => by unfold plW at p; cases p
theorem DenAll.dp : ∀ (ws : List W) {vs : List V}, plsW ws = true → DenAll K H ws vs → DpAll K H vs (dats ws)
  | [], _, _, d => by have d : _ = _ := d; subst d; exact .nil
  | w :: ws, _, p, ⟨v, r, e, d1, d2⟩ => by
    subst e
    unfold plsW at p
    rw [Bool.and_eq_true] at p
    unfold dats
    exact .cons (Den.dp w p.1 d1) (DenAll.dp ws p.2 d2)
end
end
/-- data that may be compared: no references, not too deep -/
def okD (w : W) : Bool := plW w && SeqAt.shaped (dat w)
section
variable {X : Cx} {e a b c : Expr} {es : List Expr} {st : Stmt} {sts : List Stmt} {G : Gs} {mu mu' : Mu} {pos p : Pos} {P : PW1}
/-- a list cell of plW data, or plW data -/
def asD (mu : Mu) : W → Option PyData
  | .m a => match mu a with
    | some (.lst ws) => if plsW ws then some (.list (dats ws)) else none
    | _ => none
  | w => if plW w then some (dat w) else none
theorem asD_ok {K : PySem.W.Frag} {H : Hp} {w : W} {v : V} {d : PyData} (m : HM K H mu) (dv : Den K H w v) (h : asD mu w = some d) : Dp K H v d := by
  have pl : ∀ w, (if plW w = true then some (dat w) else none) = some d → Den K H w v → Dp K H v d := fun w h dv => by
    by_cases q : plW w = true
    · rw [if_pos q] at h
      cases h
      exact Den.dp w q dv
    · rw [if_neg q] at h
      cases h
  cases w with
  | m a =>
    have dv : v = .ref a := dv
    subst dv
    have h : (match mu a with | some (.lst ws) => if plsW ws = true then some (PyData.list (dats ws)) else none | _ => none) = some d := h
    cases e : mu a with
    | none => rw [e] at h; cases h
    | some c =>
      rw [e] at h
      cases c with
      | lst ws =>
        have h : (if plsW ws = true then some (PyData.list (dats ws)) else none) = some d := h
        by_cases q : plsW ws = true
        · rw [if_pos q] at h
          cases h
          obtain ⟨xs, hx, dx⟩ := m a _ e
          exact .lst (SqL.of hx) (DenAll.dp ws q dx)
        · rw [if_neg q] at h; cases h
      | dic _ => cases h
      | ins _ _ => cases h
  | non => exact pl .non h dv
  | bl b => exact pl (.bl b) h dv
  | int b => exact pl (.int b) h dv
  | str b => exact pl (.str b) h dv
  | tup b => exact pl (.tup b) h dv
abbrev eqW (w1 w2 : W) (mu : Mu) (P : PW1) : Prop := ∃ d1 d2, asD mu w1 = some d1 ∧ asD mu w2 = some d2 ∧ SeqAt.shaped d1 = true ∧ SeqAt.shaped d2 = true ∧ P (.bl (PyData.eqv d1 d2)) mu
abbrev neW (w1 w2 : W) (mu : Mu) (P : PW1) : Prop := ∃ d1 d2, asD mu w1 = some d1 ∧ asD mu w2 = some d2 ∧ SeqAt.shaped d1 = true ∧ SeqAt.shaped d2 = true ∧ P (.bl (!PyData.eqv d1 d2)) mu
theorem eq_w : OpW X (rEqD X.K) eqW := fun w1 w2 x y mu H P Q dx dy m ⟨d1, d2, h1, h2, s1, s2, h⟩ k => ⟨d1, d2, asD_ok m dx h1, asD_ok m dy h2, s1, s2, k.now h rfl m⟩
theorem ne_w : OpW X (rNeD X.K) neW := fun w1 w2 x y mu H P Q dx dy m ⟨d1, d2, h1, h2, s1, s2, h⟩ k => ⟨d1, d2, asD_ok m dx h1, asD_ok m dy h2, s1, s2, k.now h rfl m⟩
/-! in -/
def rInT (K : PySem.W.Frag) (ng : Bool) : R2 := fun x y H Q => ∃ d ds, Dp K H x d ∧ (Dp K H y (.tuple ds) ∨ Dp K H y (.list ds)) ∧ SeqAt.shaped d = true ∧ PyData.canLayAll0 ds = true ∧ Q (.bl (ng != ds.any fun z => PyData.eqv z d)) H
theorem roomy {d : PyData} {n k : Nat} (h : SeqAt.shaped d = true) (hu : n + 65 < cLine) : n + 1 + min k d.depth < cLine := by
  unfold SeqAt.shaped at h
  rw [Bool.and_eq_true, decide_eq_true_eq] at h
  have := h.2
  omega
theorem op_inT (hu : X.A.units + 65 < cLine) : OpR X (compareOp .In) (rInT X.K false) := by
  intro pins s σ H x y v u Q I rx ry ⟨d, ds, hd, he, sd, se, q⟩
  obtain ⟨as, r1⟩ := Dp.reads I d x v hd rx
  have hl : d.canLay0 = true := by unfold SeqAt.shaped at sd; rw [Bool.and_eq_true] at sd; exact sd.1
  rcases he with he | he
  · obtain ⟨bs, r2⟩ := Dp.reads I _ y u he ry
    exact SeqAt.in_tuple_reads r2 r1 se hl (roomy sd hu) ⟨.bl _, H, I, by show Value.bool _ = Value.bool _; simp, q⟩
  · obtain ⟨bs, r2⟩ := Dp.reads I _ y u he ry
    exact SeqAt.in_list_reads r2 r1 se hl (roomy sd hu) ⟨.bl _, H, I, by show Value.bool _ = Value.bool _; simp, q⟩
theorem op_notInT (hu : X.A.units + 65 < cLine) : OpR X (compareOp .NotIn) (rInT X.K true) := by
  intro pins s σ H x y v u Q I rx ry ⟨d, ds, hd, he, sd, se, q⟩
  obtain ⟨as, r1⟩ := Dp.reads I d x v hd rx
  have hl : d.canLay0 = true := by unfold SeqAt.shaped at sd; rw [Bool.and_eq_true] at sd; exact sd.1
  rcases he with he | he
  · obtain ⟨bs, r2⟩ := Dp.reads I _ y u he ry
    exact SeqAt.notIn_tuple_reads r2 r1 se hl (roomy sd hu) ⟨.bl _, H, I, by show Value.bool _ = Value.bool _; simp, q⟩
  · obtain ⟨bs, r2⟩ := Dp.reads I _ y u he ry
    exact SeqAt.notIn_list_reads r2 r1 se hl (roomy sd hu) ⟨.bl _, H, I, by show Value.bool _ = Value.bool _; simp, q⟩
/-- the items of plW data that is walked or looked through -/
def itD (mu : Mu) : W → Option (List PyData)
  | .tup ws => if plsW ws then some (dats ws) else none
  | .m a => match mu a with
    | some (.lst ws) => if plsW ws then some (dats ws) else none
    | _ => none
  | _ => none
theorem itD_ok {K : PySem.W.Frag} {H : Hp} {w : W} {v : V} {ds : List PyData} (m : HM K H mu) (dv : Den K H w v) (h : itD mu w = some ds) : Dp K H v (.tuple ds) ∨ Dp K H v (.list ds) := by
  cases w with
  | tup ws =>
    have h : (if plsW ws = true then some (dats ws) else none) = some ds := h
    by_cases q : plsW ws = true
    · rw [if_pos q] at h
      cases h
      have := Den.dp (.tup ws) (by unfold plW; exact q) dv
      unfold dat at this
      exact .inl this
    · rw [if_neg q] at h; cases h
  | m a =>
    have dv : v = .ref a := dv
    subst dv
    have h : (match mu a with | some (.lst ws) => if plsW ws = true then some (dats ws) else none | _ => none) = some ds := h
    cases e : mu a with
    | none => rw [e] at h; cases h
    | some c =>
      rw [e] at h
      cases c with
      | lst ws =>
        have h : (if plsW ws = true then some (dats ws) else none) = some ds := h
        by_cases q : plsW ws = true
        · rw [if_pos q] at h
          cases h
          obtain ⟨xs, hx, dx⟩ := m a _ e
          exact .inr (.lst (SqL.of hx) (DenAll.dp ws q dx))
        · rw [if_neg q] at h; cases h
      | dic _ => cases h
      | ins _ _ => cases h
  | _ => cases h
abbrev inW (ng : Bool) (w1 w2 : W) (mu : Mu) (P : PW1) : Prop := plW w1 = true ∧ SeqAt.shaped (dat w1) = true ∧ ∃ ds, itD mu w2 = some ds ∧ PyData.canLayAll0 ds = true ∧ P (.bl (ng != ds.any fun z => PyData.eqv z (dat w1))) mu
theorem in_w (ng : Bool) : OpW X (rInT X.K ng) (inW ng) := fun w1 w2 x y mu H P Q dx dy m ⟨h1, s1, ds, h2, s2, h⟩ k => ⟨_, ds, Den.dp w1 h1 dx, itD_ok m dy h2, s1, s2, k.now h rfl m⟩
/-! in, of texts: one sign -/
abbrev inSW (w1 w2 : W) (mu : Mu) (P : PW1) : Prop := match w1, w2 with | .str i, .str j => P (.bl (!(Builtin.Str.occurrences j i 0 j.length 1).isEmpty)) mu | _, _ => False
theorem inS_w : OpW X (fun x y H Q => ∃ i j, x = .str i ∧ y = .str j ∧ Q (.bl (!(Builtin.Str.occurrences j i 0 j.length 1).isEmpty)) H) inSW := fun w1 w2 x y mu H P Q dx dy m h k => by
  unfold inSW at h
  split at h
  · rename_i i j
    exact ⟨i, j, dx, dy, k.now h rfl m⟩
  · exact h.elim
/-! <, of alike data -/
def rLtD (K : PySem.W.Frag) : R2 := fun x y H Q => ∃ d e, Dp K H x d ∧ Dp K H y e ∧ PySem.W.alike d e = true ∧ d ≠ .none ∧ d.depth ≤ 64 ∧ Q (.bl (PySem.W.dataLt d e)) H
theorem op_ltD (hu : X.A.units + 65 < cLine) : OpR X (compareOp .Lt) (rLtD X.K) := by
  intro pins s σ H x y v u Q I rx ry ⟨d, e, hd, he, al, nn, dp, q⟩
  obtain ⟨as, r1⟩ := Dp.reads I d x v hd rx
  obtain ⟨bs, r2⟩ := Dp.reads I e y u he ry
  exact PySem.W.rcLt_alike d e X.A s v u as bs r1 r2 al nn (by omega) X.prog X.w X.xe _ ⟨.bl _, H, I, rfl, q⟩
abbrev ltW (w1 w2 : W) (mu : Mu) (P : PW1) : Prop := plW w1 = true ∧ plW w2 = true ∧ PySem.W.alike (dat w1) (dat w2) = true ∧ dat w1 ≠ .none ∧ (dat w1).depth ≤ 64 ∧ P (.bl (PySem.W.dataLt (dat w1) (dat w2))) mu
theorem lt_w : OpW X (rLtD X.K) ltW := fun w1 w2 x y mu H P Q dx dy m ⟨h1, h2, al, nn, dp, h⟩ k => ⟨_, _, Den.dp w1 h1 dx, Den.dp w2 h2 dy, al, nn, dp, k.now h rfl m⟩
/-! ints -/
abbrev cmpI (g : Int → Int → Bool) (w1 w2 : W) (mu : Mu) (P : PW1) : Prop := match w1, w2 with | .int i, .int j => P (.bl (g i j)) mu | _, _ => False
theorem cmpI_w {g : Int → Int → Bool} : OpW X (rI0 fun i j => V.bl (g i j)) (cmpI g) := fun w1 w2 x y mu H P Q dx dy m h k => by
  unfold cmpI at h
  split at h
  · rename_i i j
    exact ⟨i, j, dx, dy, k.now h rfl m⟩
  · exact h.elim
end
end Dv
set_option Elab.async false
set_option linter.all false
set_option maxRecDepth 100000
/-! Subscripts, slices, zip, enumerate, fields, methods of lists, while, stores. -/
namespace Dv
open PySem L2
section
variable {X : Cx} {e a b c : Expr} {es : List Expr} {st : Stmt} {sts : List Stmt} {G : Gs} {mu mu' : Mu} {pos p : Pos} {P : PW1}
/-! x[i] -/
abbrev ixW (w1 w2 : W) (mu : Mu) (P : PW1) : Prop := match w1, w2 with
  | .tup ws, .int i => ∃ w, atI ws i = some w ∧ P w mu
  | .m a, .int i => ∃ ws w, mu a = some (.lst ws) ∧ atI ws i = some w ∧ P w mu
  | .str z, .int i => ∃ c, z.length ≤ sizeLine ∧ atI z.cps.toList i = some c ∧ P (.str ⟨#[c]⟩) mu
  | _, _ => False
theorem atI_den {K : PySem.W.Frag} {H : Hp} {ws : List W} {xs : List V} {i : Int} {w : W} (d : DenAll K H ws xs) (h : atI ws i = some w) : ∃ v, atI xs i = some v ∧ Den K H w v := by
  unfold atI at h ⊢
  rw [d.length] at h
  cases e : ixN xs.length i with
  | none => rw [e] at h; cases h
  | some j =>
    rw [e] at h
    have h : ws[j]? = some w := h
    obtain ⟨v, h1, h2⟩ := d.get' h
    exact ⟨v, h1, h2⟩
theorem se_ix (h : SE X a G mu fun w1 mu1 => SE X b G mu1 fun w2 mu2 => ixW w1 w2 mu2 P) (hs : PlainIx b := by exact fun _ _ => rfl) : SE X (.Subscript a b pos) G mu P :=
  SE.mk (pe_ix ix_seq peE peE hs) fun σ H Q d m k => h σ H _ d m fun x w1 mu1 H1 h1 c1 d1 m1 => h1 σ H1 _ (c1.denG m d) m1 fun y w2 mu2 H2 h2 c2 d2 m2 => by
    have d1 := c2.den m1 d1
    have k := k.step (c1.trans c2)
    cases w1 with
    | tup ws =>
      cases w2 with
      | int i =>
        obtain ⟨w, e, q⟩ := h2
        obtain ⟨aa, xs, rfl, s, dx⟩ := d1
        obtain ⟨v, e2, dv⟩ := atI_den dx e
        exact .inr (.inl ⟨aa, xs, i, v, rfl, d2, s, e2, k.now q dv m2⟩)
      | _ => exact False.elim h2
    | m aa =>
      cases w2 with
      | int i =>
        obtain ⟨ws, w, e0, e, q⟩ := h2
        have d1 : x = .ref aa := d1
        subst d1
        obtain ⟨xs, hx, dx⟩ := m2 aa _ e0
        obtain ⟨v, e2, dv⟩ := atI_den dx e
        exact .inl ⟨aa, xs, i, v, rfl, d2, SqL.of hx, e2, k.now q dv m2⟩
      | _ => exact False.elim h2
    | str z =>
      cases w2 with
      | int i =>
        obtain ⟨cc, hz, e, q⟩ := h2
        exact .inr (.inr ⟨z, i, cc, d1, d2, hz, e, k.now q rfl m2⟩)
      | _ => exact False.elim h2
    | _ => cases w2 <;> exact False.elim h2
/-! x[lo:hi] -/
def cutW (xs : List W) (lo hi : Option Int) : List W := (xs.drop (HT.sIx xs.length 0 lo)).take (HT.sIx xs.length xs.length hi - HT.sIx xs.length 0 lo)
theorem cut_den {K : PySem.W.Frag} {H : Hp} {ws : List W} {xs : List V} (lo hi : Option Int) (d : DenAll K H ws xs) : DenAll K H (cutW ws lo hi) (cutV xs lo hi) := by
  unfold cutW cutV
  rw [d.length]
  exact (d.drop _).take _
abbrev slW (w : W) (lo hi : Option Int) (mu : Mu) (P : PW1) : Prop := match w with
  | .tup ws => P (.tup (cutW ws lo hi)) mu
  | .m a => ∃ ws, mu a = some (.lst ws) ∧ ∀ p, mu p = none → P (.m p) (setM mu p (.lst (cutW ws lo hi)))
  | .str z => z.length ≤ sizeLine ∧ P (.str (cutS z lo hi)) mu
  | _ => False
theorem cut_whole {xs : List V} {lo hi : Option Int} (h : HT.sIx xs.length 0 lo = 0 ∧ HT.sIx xs.length xs.length hi = xs.length) : cutV xs lo hi = xs := by
  unfold cutV
  rw [h.1, h.2]
  simp
theorem sl_rd {w : W} {x : V} {lo hi : Option Int} {mu : Mu} {H : Hp} {Q : VK} (d : Den X.K H w x) (m : HM X.K H mu) (h : slW w lo hi mu P) (k : Kont X.K mu H P Q) : rSlL X.K x lo hi H Q ∨ rSlA X.K x lo hi H Q ∨ rSlS x lo hi H Q := by
  unfold slW at h
  split at h
  · rename_i ws
    obtain ⟨aa, xs, rfl, s, dx⟩ := d
    have dc := cut_den lo hi dx
    refine .inr (.inl ⟨aa, xs, rfl, s, fun q => ?_, fun q p hp => ?_⟩)
    · rw [cut_whole q] at dc
      exact k.now h ⟨aa, xs, rfl, s, dc⟩ m
    · obtain ⟨c2, m2⟩ := laid (o := .tup (cutV xs lo hi)) m hp
      exact k _ _ mu _ h c2 ⟨p, _, rfl, SqT.of upd_same, c2.denAll m dc⟩ m2
  · rename_i aa
    obtain ⟨ws, e, h⟩ := h
    have d : x = .ref aa := d
    subst d
    obtain ⟨xs, hx, dx⟩ := m aa _ e
    refine .inl ⟨aa, xs, rfl, SqL.of hx, fun p hp => ?_⟩
    obtain ⟨c2, m2⟩ := laidC (o := .lst (cutV xs lo hi)) (c := .lst (cutW ws lo hi)) m hp (newLst (cut_den lo hi dx))
    exact k _ _ _ _ (h p (m.dom hp)) c2 rfl m2
  · rename_i z
    exact .inr (.inr ⟨z, d, h.1, k.now h.2 rfl m⟩)
  · exact h.elim
theorem sl_all : SlR X fun x l u H Q => rSlL X.K x l u H Q ∨ rSlA X.K x l u H Q ∨ rSlS x l u H Q := SlR.or sl_list (SlR.or sl_tupA sl_str)
abbrev isI (w : W) (P : Int → Prop) : Prop := match w with | .int i => P i | _ => False
theorem isI_den {K : PySem.W.Frag} {H : Hp} {w : W} {v : V} {P : Int → Prop} (h : isI w P) (d : Den K H w v) : ∃ i, v = .int i ∧ P i := by
  cases w with
  | int i => exact ⟨i, d, h⟩
  | _ => exact h.elim
theorem se_slFrom {p2 : Pos} (h : SE X a G mu fun w1 mu1 => SE X b G mu1 fun w2 mu2 => isI w2 fun i => slW w1 (some i) none mu2 P) : SE X (.Subscript a (.Slice (some b) none none p2) pos) G mu P :=
  SE.mk (pe_slice sl_all peE (po_some peE) po_none) fun σ H Q d m k => h σ H _ d m fun x w1 mu1 H1 h1 c1 d1 m1 => h1 σ H1 _ (c1.denG m d) m1 fun y w2 mu2 H2 h2 c2 d2 m2 => by
    obtain ⟨i, e, q⟩ := isI_den h2 d2
    exact ⟨i, e, sl_rd (c2.den m1 d1) m2 q (k.step (c1.trans c2))⟩
theorem se_slTo {p2 : Pos} (h : SE X a G mu fun w1 mu1 => SE X b G mu1 fun w2 mu2 => isI w2 fun i => slW w1 none (some i) mu2 P) : SE X (.Subscript a (.Slice none (some b) none p2) pos) G mu P :=
  SE.mk (pe_slice sl_all peE po_none (po_some peE)) fun σ H Q d m k => h σ H _ d m fun x w1 mu1 H1 h1 c1 d1 m1 => h1 σ H1 _ (c1.denG m d) m1 fun y w2 mu2 H2 h2 c2 d2 m2 => by
    obtain ⟨i, e, q⟩ := isI_den h2 d2
    exact ⟨i, e, sl_rd (c2.den m1 d1) m2 q (k.step (c1.trans c2))⟩
theorem se_slMid {p2 : Pos} (h : SE X a G mu fun w1 mu1 => SE X b G mu1 fun w2 mu2 => isI w2 fun i => SE X c G mu2 fun w3 mu3 => isI w3 fun j => slW w1 (some i) (some j) mu3 P) : SE X (.Subscript a (.Slice (some b) (some c) none p2) pos) G mu P :=
  SE.mk (pe_slice sl_all peE (po_some peE) (po_some peE)) fun σ H Q d m k => h σ H _ d m fun x w1 mu1 H1 h1 c1 d1 m1 => h1 σ H1 _ (c1.denG m d) m1 fun y w2 mu2 H2 h2 c2 d2 m2 => by
    obtain ⟨i, e, q⟩ := isI_den h2 d2
    refine ⟨i, e, (show SE X c G mu2 _ from q) σ H2 _ ((c1.trans c2).denG m d) m2 fun z w3 mu3 H3 h3 c3 d3 m3 => ?_⟩
    obtain ⟨j, e3, q3⟩ := isI_den h3 d3
    exact ⟨j, e3, sl_rd (c3.den m2 (c2.den m1 d1)) m3 q3 (k.step ((c1.trans c2).trans c3))⟩
/-! zip -/
theorem zip_itw {K : PySem.W.Frag} {J : It} {ws us : List W} {xs ys : List V} {mu : Mu} {H : Hp} {Gh : Hp → Prop} {Gm : Mu → Prop} (m : HM K H mu) (dx : DenAll K H ws xs) (dy : DenAll K H us ys)
    (wk : Walk J (min xs.length ys.length) Gh (YPair (fun i => xs[i]?) fun i => ys[i]?)) (hg : ∀ mu' H', Chg mu H mu' H' → HM K H' mu' → Gm mu' → Gh H') : ItW K J ((ws.zip us).map fun q => W.tup [q.1, q.2]) Gm mu H := by
  refine ⟨Gh, _, by rw [List.length_map, List.length_zip, dx.length, dy.length]; exact wk, hg, fun i H1 x H2 mu' hi c m' _ y => ?_⟩
  obtain ⟨T, x1, y1, rfl, hT, rfl, e1, e2⟩ := y
  obtain ⟨w1, f1, g1⟩ := dx.get e1
  obtain ⟨w2, f2, g2⟩ := dy.get e2
  obtain ⟨c2, m2⟩ := laid (o := .tup [x1, y1]) m' hT
  refine ⟨.tup [w1, w2], ?_, c2, m2, T, _, rfl, SqT.of upd_same, x1, [y1], rfl, c2.den m' (c.den m g1), y1, [], rfl, c2.den m' (c.den m g2), rfl⟩
  rw [List.getElem?_map]
  have : (ws.zip us)[i]? = some (w1, w2) := by rw [List.getElem?_zip_eq_some]; exact ⟨f1, f2⟩
  rw [this]
  rfl
theorem walk_zipT {K : PySem.W.Frag} {a b : Addr} {xs ys : List V} {n : Nat} (hn : n = min xs.length ys.length) : Walk (RZ.ItzT K a b) n (fun H => SqT K H a xs ∧ SqT K H b ys) (YPair (fun i => xs[i]?) fun i => ys[i]?) := by
  subst hn
  refine ⟨fun i H hi q => ?_, fun H q => ⟨xs, ys, q.1, q.2, by omega⟩, fun i H v H' hi q y => ?_⟩
  · have h1 : i < xs.length := by omega
    have h2 : i < ys.length := by omega
    exact ⟨xs, ys, xs[i], ys[i], q.1, q.2, by simp [h1], by simp [h2]⟩
  · obtain ⟨T, x, y, h1, h2, h3, h4, h5⟩ := y
    exact ⟨T, x, y, h1, h2, h3, h4 _ q.1, h5 _ q.2⟩
theorem zipL_itw {K : PySem.W.Frag} {a b : Addr} {ws us : List W} {mu : Mu} {H : Hp} (m : HM K H mu) : ItW K (Itz K a b) ((ws.zip us).map fun q => W.tup [q.1, q.2]) (fun mu' => mu' a = some (.lst ws) ∧ mu' b = some (.lst us)) mu H := by
  refine ⟨fun H' => ∃ xs ys, SqL K H' a xs ∧ SqL K H' b ys ∧ DenAll K H' ws xs ∧ DenAll K H' us ys,
    fun i H1 v H2 => ∃ T x y w1 w2, v = .ref T ∧ H1 T = none ∧ H2 = upd H1 T (.tup [x, y]) ∧ ws[i]? = some w1 ∧ us[i]? = some w2 ∧ Den K H1 w1 x ∧ Den K H1 w2 y, ⟨fun i H' hi q => ?_, fun H' q => ?_, fun i H' x H'' hi q y => ?_⟩, fun mu' H' c m' g => ?_, fun i H1 v H2 mu' hi c m' g y => ?_⟩
  · obtain ⟨xs, ys, s1, s2, d1, d2⟩ := q
    rw [List.length_map, List.length_zip, d1.length, d2.length] at hi
    have h1 : i < xs.length := by omega
    have h2 : i < ys.length := by omega
    exact ⟨xs, ys, xs[i], ys[i], s1, s2, by simp [h1], by simp [h2]⟩
  · obtain ⟨xs, ys, s1, s2, d1, d2⟩ := q
    refine ⟨xs, ys, s1, s2, ?_⟩
    rw [List.length_map, List.length_zip, d1.length, d2.length]
    omega
  · obtain ⟨xs, ys, s1, s2, d1, d2⟩ := q
    obtain ⟨T, x1, y1, h1, h2, h3, h4, h5⟩ := y
    obtain ⟨w1, f1, g1⟩ := d1.get (h4 xs s1)
    obtain ⟨w2, f2, g2⟩ := d2.get (h5 ys s2)
    exact ⟨T, x1, y1, w1, w2, h1, h2, h3, f1, f2, g1, g2⟩
  · obtain ⟨xs, h1, d1⟩ := m' a _ g.1
    obtain ⟨ys, h2, d2⟩ := m' b _ g.2
    exact ⟨xs, ys, SqL.of h1, SqL.of h2, d1, d2⟩
  · obtain ⟨T, x1, y1, w1, w2, rfl, hT, rfl, f1, f2, g1, g2⟩ := y
    obtain ⟨c2, m2⟩ := laid (o := .tup [x1, y1]) m' hT
    refine ⟨.tup [w1, w2], ?_, c2, m2, T, _, rfl, SqT.of upd_same, x1, [y1], rfl, c2.den m' g1, y1, [], rfl, c2.den m' g2, rfl⟩
    rw [List.getElem?_map]
    have : (ws.zip us)[i]? = some (w1, w2) := by rw [List.getElem?_zip_eq_some]; exact ⟨f1, f2⟩
    rw [this]
    rfl
abbrev zipW (w1 w2 : W) (mu : Mu) (Post : List W → (Mu → Prop) → Mu → Prop) : Prop := match w1, w2 with
  | .tup ws, .tup us => Post ((ws.zip us).map fun q => W.tup [q.1, q.2]) (fun _ => True) mu
  | .m a, .m b => ∃ ws us, mu a = some (.lst ws) ∧ mu b = some (.lst us) ∧ Post ((ws.zip us).map fun q => W.tup [q.1, q.2]) (fun mu' => mu' a = some (.lst ws) ∧ mu' b = some (.lst us)) mu
  | _, _ => False
theorem si_zip {elts : List Expr} {kk : Nat} {tpos : Pos} {Post : List W → (Mu → Prop) → Mu → Prop} (h : SE X a G mu fun w1 mu1 => SE X b G mu1 fun w2 mu2 => zipW w1 w2 mu2 Post) (hm : X.mg "zip" = none) (hg : Gl X "zip" := by rfl)
    (hs : starEach [a, b] X.env = (false, eval a X.env) :: starEach [b] X.env := by rfl) (hs2 : starEach [b] X.env = [(false, eval b X.env)] := by rfl) (hpl : (backTo pos (starEach [b] X.env)).any (·.1) = false := by rfl) :
    SI X (.Tuple elts kk tpos) (.Call (.Name "zip" p) [a, b] [] pos) G mu Post :=
  SI.mk (RZ.pi_zipA hg hm (pa_cons peE (pa_cons peE pa_nil hs2) hs) hs hpl) fun σ H R d m k => h σ H _ d m fun x w1 mu1 H1 h1 c1 d1 m1 => h1 σ H1 _ (c1.denG m d) m1 fun y w2 mu2 H2 h2 c2 d2 m2 => by
    have d1 := c2.den m1 d1
    have c12 := c1.trans c2
    cases w1 with
    | tup ws =>
      cases w2 with
      | tup us =>
        obtain ⟨a1, xs, rfl, s1, dx⟩ := d1
        obtain ⟨a2, ys, rfl, s2, dy⟩ := d2
        exact ⟨a1, a2, xs, ys, rfl, .inr ⟨s1, s2, k _ _ _ _ _ h2 c12 m2 (zip_itw m2 dx dy (walk_zipT rfl) fun mu' H' c m' _ => ⟨c.sqt m2 _ _ s1, c.sqt m2 _ _ s2⟩)⟩⟩
      | _ => exact False.elim h2
    | m a1 =>
      cases w2 with
      | m a2 =>
        obtain ⟨ws, us, e1, e2, h3⟩ := h2
        have d1 : x = .ref a1 := d1
        have d2 : y = .ref a2 := d2
        subst d1 d2
        obtain ⟨xs, hx, dx⟩ := m2 a1 _ e1
        obtain ⟨ys, hy, dy⟩ := m2 a2 _ e2
        exact ⟨a1, a2, xs, ys, rfl, .inl ⟨SqL.of hx, SqL.of hy, k _ _ _ _ _ h3 c12 m2 (zipL_itw m2)⟩⟩
      | _ => exact False.elim h2
    | _ => cases w2 <;> exact False.elim h2
end
end Dv
set_option Elab.async false
set_option linter.all false
set_option maxRecDepth 100000
/-! Methods of lists, stores, dicts, fields, while, parallel stores. -/
namespace Dv
open PySem L2
section
variable {X : Cx} {e a b c : Expr} {es : List Expr} {st : Stmt} {sts : List Stmt} {G : Gs} {mu mu' : Mu} {pos p apos cpos : Pos} {P : PW1}
/-! a list's methods with one argument -/
abbrev MtW (X : Cx) (r : V → List V → Hp → VK → Prop) (f : W → List W → Mu → PW1 → Prop) : Prop := ∀ w ws v vs mu H P Q, Den X.K H w v → DenAll X.K H ws vs → HM X.K H mu → f w ws mu P → Kont X.K mu H P Q → r v vs H Q
theorem se_lm {name : Str} {id : String} {r : V → List V → Hp → VK → Prop} {f : W → List W → Mu → PW1 → Prop} (hs : Slot "list" name id) (ht : typeOf (Value.builtin id) = pure (Value.type "method_descriptor")) (hr : MtR X id r) (hw : MtW X r f)
    (h : SE X a G mu fun w mu1 => match w with | .m aa => (∃ ws, mu1 aa = some (.lst ws)) ∧ SA X (e :: es) G mu1 fun ws mu2 => f (.m aa) ws mu2 P | _ => False)
    (hb : attributeBase a name X.env (eval a X.env) = eval a X.env := by rfl) (hq : (((backTo cpos (starEach (e :: es) X.env)).all fun x => !x.1) && (backToKw cpos (keywordEach [] X.env)).all (fun x => x.1.isSome) && decide (((e :: es).length + ([] : List Keyword).length + if ([] : List Keyword).isEmpty = true then 0 else 1) < 30)) = true := by rfl)
    (hl : (apos.endLine == cpos.line) = true := by rfl) (he : starEach (e :: es) X.env = (false, eval e X.env) :: starEach es X.env := by rfl) (hpl : (backTo cpos (starEach es X.env)).any (·.1) = false := by rfl) : SE X (.Call (.Attribute a name apos) (e :: es) [] cpos) G mu P :=
  SE.mk (pe_bm PySem.F.plainAttrs_list hs ht hr peE paA hb hq hl he hpl) fun σ H Q d m k => h σ H _ d m fun v w mu1 H1 h1 c1 d1 m1 => by
    cases w with
    | m aa =>
      obtain ⟨⟨ws, e0⟩, h2⟩ := h1
      have d1 : v = .ref aa := d1
      subst d1
      obtain ⟨xs, hx, dx⟩ := m1 aa _ e0
      exact ⟨.inl ⟨rfl, xs, SqL.of hx⟩, h2 σ H1 _ (c1.denG m d) m1 fun vs ws' mu2 H2 h3 c2 d2 m2 => hw (.m aa) _ _ _ _ _ _ _ rfl d2 m2 h3 (k.step (c1.trans c2))⟩
    | _ => exact False.elim h1
abbrev appW (w : W) (ws : List W) (mu : Mu) (P : PW1) : Prop := match w, ws with | .m a, [y] => ∃ us, mu a = some (.lst us) ∧ us.length < sizeLine ∧ P .non (setM mu a (.lst (us ++ [y]))) | _, _ => False
theorem app_w : MtW X rAppend appW := fun w ws v vs mu H P Q dv dvs m h k => by
  unfold appW at h
  split at h
  · rename_i aa y
    obtain ⟨us, e, hl, q⟩ := h
    obtain ⟨y', rfl, dy⟩ := dvs.one
    have dv : v = .ref aa := dv
    subst dv
    obtain ⟨xs, hx, dx⟩ := m aa _ e
    obtain ⟨c2, m2⟩ := wrote (o := .lst (xs ++ [y'])) (c := .lst (us ++ [y])) m e (newLst (DenAll.append dx ⟨y', [], rfl, dy, rfl⟩))
    exact ⟨aa, xs, y', rfl, rfl, hx, by rw [← dx.length]; exact hl, k _ _ _ _ q c2 rfl m2⟩
  · exact h.elim
theorem se_append (h : SE X a G mu fun w mu1 => match w with | .m aa => (∃ ws, mu1 aa = some (.lst ws)) ∧ SA X [e] G mu1 fun ws mu2 => appW (.m aa) ws mu2 P | _ => False)
    (hb : attributeBase a "append" X.env (eval a X.env) = eval a X.env := by rfl) (hq : (((backTo cpos (starEach [e] X.env)).all fun x => !x.1) && (backToKw cpos (keywordEach [] X.env)).all (fun x => x.1.isSome) && decide (([e].length + ([] : List Keyword).length + if ([] : List Keyword).isEmpty = true then 0 else 1) < 30)) = true := by rfl)
    (hl : (apos.endLine == cpos.line) = true := by rfl) (he : starEach [e] X.env = (false, eval e X.env) :: starEach [] X.env := by rfl) (hpl : (backTo cpos (starEach [] X.env)).any (·.1) = false := by rfl) : SE X (.Call (.Attribute a "append" apos) [e] [] cpos) G mu P :=
  se_lm PySem.F.slot_list_append PySem.F.type_list_append mt_append app_w h hb hq hl he hpl
abbrev extW (w : W) (ws : List W) (mu : Mu) (P : PW1) : Prop := match w, ws with | .m a, [.m b] => ∃ us zs, mu a = some (.lst us) ∧ mu b = some (.lst zs) ∧ us.length + zs.length ≤ sizeLine ∧ P .non (setM mu a (.lst (us ++ zs))) | _, _ => False
theorem ext_w : MtW X rExtend extW := fun w ws v vs mu H P Q dv dvs m h k => by
  unfold extW at h
  split at h
  · rename_i aa bb
    obtain ⟨us, zs, e, e2, hl, q⟩ := h
    obtain ⟨y', rfl, dy⟩ := dvs.one
    have dv : v = .ref aa := dv
    have dy : y' = .ref bb := dy
    subst dv dy
    obtain ⟨xs, hx, dx⟩ := m aa _ e
    obtain ⟨ys, hy, dy⟩ := m bb _ e2
    obtain ⟨c2, m2⟩ := wrote (o := .lst (xs ++ ys)) (c := .lst (us ++ zs)) m e (newLst (DenAll.append dx dy))
    exact ⟨aa, bb, xs, ys, rfl, rfl, hx, hy, by rw [← dx.length, ← dy.length]; exact hl, k _ _ _ _ q c2 rfl m2⟩
  · exact h.elim
theorem se_extend (h : SE X a G mu fun w mu1 => match w with | .m aa => (∃ ws, mu1 aa = some (.lst ws)) ∧ SA X [e] G mu1 fun ws mu2 => extW (.m aa) ws mu2 P | _ => False)
    (hb : attributeBase a "extend" X.env (eval a X.env) = eval a X.env := by rfl) (hq : (((backTo cpos (starEach [e] X.env)).all fun x => !x.1) && (backToKw cpos (keywordEach [] X.env)).all (fun x => x.1.isSome) && decide (([e].length + ([] : List Keyword).length + if ([] : List Keyword).isEmpty = true then 0 else 1) < 30)) = true := by rfl)
    (hl : (apos.endLine == cpos.line) = true := by rfl) (he : starEach [e] X.env = (false, eval e X.env) :: starEach [] X.env := by rfl) (hpl : (backTo cpos (starEach [] X.env)).any (·.1) = false := by rfl) : SE X (.Call (.Attribute a "extend" apos) [e] [] cpos) G mu P :=
  se_lm PySem.F.slot_list_extend PySem.F.type_list_extend mt_extend ext_w h hb hq hl he hpl
abbrev popW (w : W) (ws : List W) (mu : Mu) (P : PW1) : Prop := match w, ws with | .m a, [.int i] => ∃ us k y, mu a = some (.lst us) ∧ -(2 ^ 63) ≤ i ∧ i < 2 ^ 63 ∧ seqIndex? i us.length = some k ∧ us[k]? = some y ∧ P y (setM mu a (.lst (us.eraseIdx k))) | _, _ => False
theorem DenAll.erase {K : PySem.W.Frag} {H : Hp} : ∀ {ws : List W} {vs : List V} (i : Nat), DenAll K H ws vs → DenAll K H (ws.eraseIdx i) (vs.eraseIdx i)
  | [], _, i, d => by have d : _ = _ := d; subst d; simp [DenAll]
  | w :: ws, _, 0, ⟨v, r, e, d1, d2⟩ => by subst e; exact d2
  | w :: ws, _, i + 1, ⟨v, r, e, d1, d2⟩ => by subst e; exact ⟨v, _, rfl, d1, DenAll.erase i d2⟩
theorem pop_w : MtW X rPopAt popW := fun w ws v vs mu H P Q dv dvs m h k => by
  unfold popW at h
  split at h
  · rename_i aa i
    obtain ⟨us, kk, y, e, l1, l2, hk, hy, q⟩ := h
    obtain ⟨y', rfl, dy⟩ := dvs.one
    have dv : v = .ref aa := dv
    have dy : y' = .int i := dy
    subst dv dy
    obtain ⟨xs, hx, dx⟩ := m aa _ e
    obtain ⟨v, hv, dv⟩ := dx.get' hy
    obtain ⟨c2, m2⟩ := wrote (o := .lst (xs.eraseIdx kk)) (c := .lst (us.eraseIdx kk)) m e (newLst (dx.erase kk))
    exact ⟨aa, xs, i, kk, v, rfl, rfl, hx, l1, l2, by rw [← dx.length]; exact hk, hv, k _ _ _ _ q c2 (c2.den m dv) m2⟩
  · exact h.elim
theorem se_pop (h : SE X a G mu fun w mu1 => match w with | .m aa => (∃ ws, mu1 aa = some (.lst ws)) ∧ SA X [e] G mu1 fun ws mu2 => popW (.m aa) ws mu2 P | _ => False)
    (hb : attributeBase a "pop" X.env (eval a X.env) = eval a X.env := by rfl) (hq : (((backTo cpos (starEach [e] X.env)).all fun x => !x.1) && (backToKw cpos (keywordEach [] X.env)).all (fun x => x.1.isSome) && decide (([e].length + ([] : List Keyword).length + if ([] : List Keyword).isEmpty = true then 0 else 1) < 30)) = true := by rfl)
    (hl : (apos.endLine == cpos.line) = true := by rfl) (he : starEach [e] X.env = (false, eval e X.env) :: starEach [] X.env := by rfl) (hpl : (backTo cpos (starEach [] X.env)).any (·.1) = false := by rfl) : SE X (.Call (.Attribute a "pop" apos) [e] [] cpos) G mu P :=
  se_lm PySem.F.slot_list_pop PySem.F.type_list_pop mt_popAt pop_w h hb hq hl he hpl
/-! xs[i] = e -/
abbrev stW (o i w : W) (G : Gs) (mu : Mu) (N : Gs → Mu → Prop) : Prop := match o, i with | .m a, .int k => ∃ us j, mu a = some (.lst us) ∧ ixN us.length k = some j ∧ N G (setM mu a (.lst (us.set j w))) | _, _ => False
theorem ss_stL {E : WE} {tpos : Pos} (h : SE X e G mu fun w mu1 => SE X a G mu1 fun o mu2 => SE X b G mu2 fun i mu3 => stW o i w G mu3 E.nx)
    (ha0 : ∀ v, assign (.Subscript a b tpos) X.env v = (do
      let ov ← holding [v] (eval a X.env)
      let iv ← holding [v, ov] (eval b X.env)
      standAt tpos
      holding [v, ov, iv] (setItem ov iv v)
      release [v, ov, iv] []) := by intro _; rfl)
    (hs : swapsWithSole [.Subscript a b tpos] e pos.line X.env = pure false := by rfl) (hw : swappedStores [.Subscript a b tpos] e X.env = pure none := by rfl)
    (ha : (assignEach [.Subscript a b tpos] X.env).map (·.2) = [assign (.Subscript a b tpos) X.env] := by rfl) : SS X (.Assign [.Subscript a b tpos] e pos) G mu E :=
  SS.mk (ps_asg peE (pg_sub peE peE set_list ha0) hs hw ha) fun σ H D d m k => h σ H _ d m fun v w mu1 H1 h1 c1 d1 m1 => h1 σ H1 _ (c1.denG m d) m1 fun ov o mu2 H2 h2 c2 d2 m2 => h2 σ H2 _ ((c1.trans c2).denG m d) m2 fun iv i mu3 H3 h3 c3 d3 m3 => by
    have d2 := c3.den m2 d2
    have d1 := c3.den m2 (c2.den m1 d1)
    have cc := (c1.trans c2).trans c3
    cases o with
    | m aa =>
      cases i with
      | int kk =>
        obtain ⟨us, j, e0, hj, q⟩ := h3
        have d2 : ov = .ref aa := d2
        subst d2
        obtain ⟨xs, hx, dx⟩ := m3 aa _ e0
        obtain ⟨c4, m4⟩ := wrote (o := .lst (xs.set j v)) (c := .lst (us.set j w)) m3 e0 (newLst (dx.set j d1))
        exact ⟨aa, xs, kk, j, rfl, d3, hx, by rw [← dx.length]; exact hj, k.nx _ _ _ _ q (cc.trans c4) (c4.denG m3 (cc.denG m d)) m4⟩
      | _ => exact False.elim h3
    | _ => cases i <;> exact False.elim h3
/-! while -/
theorem ss_while {body : List Stmt} {E : WE} (hp : PassesOwn (model X.prog X.w) X.A X.env X.xe) (I : Nat → Gs → Mu → Prop) (h0 : ∃ n, I n G mu)
    (ht : ∀ n G' mu', I n G' mu' → ST X c G' mu' fun kk mu2 => if2 kk (SSs X body G' mu2 { E with nx := fun G3 mu3 => ∃ n', n' < n ∧ I n' G3 mu3, ct := fun G3 mu3 => ∃ n', n' < n ∧ I n' G3 mu3, bk := E.nx }) (E.nx G' mu2)) : SS X (.While c body [] pos) G mu E :=
  SS.mk (ps_while hp ptT pssS) fun σ H D d m k => by
    refine ⟨fun n σ' H' => ∃ G' mu', I n G' mu' ∧ Chg mu H mu' H' ∧ DenG X.K H' G' σ' ∧ HM X.K H' mu', ?_, fun n σ' H' ⟨G', mu', q, c1, d1, m1⟩ => ?_⟩
    · obtain ⟨n, q⟩ := h0
      exact ⟨n, G, mu, q, Chg.refl, d, m⟩
    · refine ht n G' mu' q σ' H' _ d1 m1 fun kk mu2 H2 h2 c2 m2 => ?_
      have c12 := c1.trans c2
      cases kk with
      | true => exact iteT ⟨fun σ3 H3 => ∃ n', n' < n ∧ ∃ G' mu', I n' G' mu' ∧ Chg mu H mu' H3 ∧ DenG X.K H3 G' σ3 ∧ HM X.K H3 mu', fun σ3 H3 ⟨n', l, q⟩ => ⟨n', l, q⟩,
          h2 σ' H2 _ (c2.denG m1 d1) m2 ⟨fun σ4 G4 mu4 H4 ⟨n', l, q⟩ c4 d4 m4 => ⟨n', l, G4, mu4, q, c12.trans c4, d4, m4⟩, k.rt.step c12, k.nx.step c12, fun σ4 G4 mu4 H4 ⟨n', l, q⟩ c4 d4 m4 => ⟨n', l, G4, mu4, q, c12.trans c4, d4, m4⟩⟩⟩
      | false => exact iteF (k.nx _ _ _ _ h2 c12 (c2.denG m1 d1) m2)
/-! a, b = x, y -/
theorem ss_par {i j : Nat} {x y : Str} {px py pt : Pos} {kt k2 : Nat} {pt2 : Pos} {E : WE} (h : SE X a G mu fun w mu1 => SE X b G mu1 fun w2 mu2 => E.nx ((G.set i (some w)).set j (some w2)) mu2) (hc : X.calm = true) (hN : X.N.Nodup) (hij : i ≠ j)
    (hsw : swappedStores [.Tuple [.Name x px, .Name y py] kt pt] (.Tuple [a, b] k2 pt2) X.env = pure (some [x, y])) (hi : X.N[i]? = some x := by rfl) (hj : X.N[j]? = some y := by rfl) (hx : X.env.scope.names.lookup x = some .local := by rfl) (hy : X.env.scope.names.lookup y = some .local := by rfl)
    (hs : starEach [a, b] X.env = (false, eval a X.env) :: starEach [b] X.env := by rfl) (hs2 : starEach [b] X.env = [(false, eval b X.env)] := by rfl) (hso : swapsWithSole [.Tuple [.Name x px, .Name y py] kt pt] (.Tuple [a, b] k2 pt2) pos.line X.env = pure false := by rfl) :
    SS X (.Assign [.Tuple [.Name x px, .Name y py] kt pt] (.Tuple [a, b] k2 pt2) pos) G mu E :=
  SS.mk (ps_par hc hN hi hj hij hx hy (pa_cons peE (pa_cons peE pa_nil hs2) hs) hsw hso) fun σ H D d m k => h σ H _ d m fun v w mu1 H1 h1 c1 d1 m1 => h1 σ H1 _ (c1.denG m d) m1 fun v2 w2 mu2 H2 h2 c2 d2 m2 =>
    ⟨v, v2, rfl, k.nx _ _ _ _ h2 (c1.trans c2) (DenG.set (DenG.set ((c1.trans c2).denG m d) (c2.den m1 d1)) d2) m2⟩
end
end Dv
set_option Elab.async false
set_option linter.all false
set_option maxRecDepth 100000
/-! Dicts by values; fields of instances. -/
namespace Dv
open PySem L2
def kW : Key → W
  | .inl i => .int i
  | .inr x => .str x
section
variable {K : PySem.W.Frag} {H : Hp} {κ : Type} [DecidableEq κ]
theorem kW_den {k : Key} {v : V} (d : Den K H (kW k) v) : v = kV k := by
  cases k with
  | inl i => exact d
  | inr x => exact d
theorem kV_den {k : Key} : Den K H (kW k) (kV k) := by
  cases k with
  | inl i => rfl
  | inr x => rfl
/-- what pairs hold at a key -/
def valW (kvs : List (κ × W)) (k : κ) : Option W := match kvs with
  | [] => none
  | (j, w) :: r => if j = k then some w else valW r k
def putW (kvs : List (κ × W)) (k : κ) (w : W) : List (κ × W) := match kvs with
  | [] => [(k, w)]
  | (j, u) :: r => if j = k then (j, w) :: r else (j, u) :: putW r k w
abbrev DKV (K : PySem.W.Frag) (H : Hp) (kvs : List (κ × W)) (vs : List (κ × V)) : Prop := kvs.map (·.1) = vs.map (·.1) ∧ DenAll K H (kvs.map (·.2)) (vs.map (·.2))
theorem DKV.cons {j : κ} {w : W} {r : List (κ × W)} {vs : List (κ × V)} (d : DKV K H ((j, w) :: r) vs) : ∃ v vs', vs = (j, v) :: vs' ∧ Den K H w v ∧ DKV K H r vs' := by
  obtain ⟨h1, v, xs, e, d1, d2⟩ := d
  cases vs with
  | nil => cases h1
  | cons q vs' =>
    obtain ⟨j', v'⟩ := q
    simp only [List.map_cons, List.cons.injEq] at h1 e
    obtain ⟨rfl, h1⟩ := h1
    obtain ⟨rfl, rfl⟩ := e
    exact ⟨v', vs', rfl, d1, h1, d2⟩
theorem DKV.nil {vs : List (κ × V)} (d : DKV K H [] vs) : vs = [] := by
  cases vs with
  | nil => rfl
  | cons q r => cases d.1
theorem DKV.mk {j : κ} {w : W} {v : V} {r : List (κ × W)} {vs : List (κ × V)} (d : Den K H w v) (t : DKV K H r vs) : DKV K H ((j, w) :: r) ((j, v) :: vs) := ⟨by simp [t.1], v, _, rfl, d, t.2⟩
theorem DKV.get : ∀ {kvs : List (κ × W)} {vs : List (κ × V)} {k : κ} {w : W}, DKV K H kvs vs → valW kvs k = some w → ∃ v, valV vs k = some v ∧ Den K H w v
  | [], _, k, w, d, h => by cases h
  | (j, u) :: r, _, k, w, d, h => by
    obtain ⟨v, vs', rfl, d1, d2⟩ := d.cons
    unfold valW at h
    by_cases e : j = k
    · rw [if_pos e] at h
      cases h
      refine ⟨v, ?_, d1⟩
      unfold valV
      simp [e]
    · rw [if_neg e] at h
      obtain ⟨v', h1, h2⟩ := DKV.get d2 h
      refine ⟨v', ?_, h2⟩
      unfold valV at h1 ⊢
      simp only [List.find?, e, decide_false]
      exact h1
theorem DKV.getN : ∀ {kvs : List (κ × W)} {vs : List (κ × V)} {k : κ}, DKV K H kvs vs → valW kvs k = none → valV vs k = none
  | [], _, k, d, h => by rw [d.nil]; rfl
  | (j, u) :: r, _, k, d, h => by
    obtain ⟨v, vs', rfl, d1, d2⟩ := d.cons
    unfold valW at h
    by_cases e : j = k
    · rw [if_pos e] at h; cases h
    · rw [if_neg e] at h
      have h1 := DKV.getN d2 h
      unfold valV at h1 ⊢
      simp only [List.find?, e, decide_false]
      exact h1
theorem putK_cons (j : κ) (u : V) (r : List (κ × V)) (k : κ) (v : V) (hn : j = k → ∀ q ∈ r, q.1 ≠ k) : putK ((j, u) :: r) k v = if j = k then (j, v) :: r else (j, u) :: putK r k v := by
  unfold putK
  by_cases e : j = k
  · rw [if_pos e, if_pos (by simp [e])]
    simp only [List.map_cons, e, if_true]
    congr 1
    have : ∀ q ∈ r, (if q.1 = k then (q.1, v) else q) = q := fun q hq => if_neg (hn e q hq)
    conv => rhs; rw [← List.map_id r]
    exact List.map_congr_left this
  · rw [if_neg e]
    by_cases z : (r.any fun kv => decide (kv.1 = k)) = true
    · rw [if_pos (by simp only [List.any_cons, e, decide_false, Bool.false_or]; exact z), if_pos z]
      simp [e]
    · rw [if_neg (by simp only [List.any_cons, e, decide_false, Bool.false_or]; exact z), if_neg z]
      rfl
theorem DKV.put : ∀ {kvs : List (κ × W)} {vs : List (κ × V)} {k : κ} {w : W} {v : V}, (kvs.map (·.1)).Nodup → DKV K H kvs vs → Den K H w v → DKV K H (putW kvs k w) (putK vs k v)
  | [], _, k, w, v, _, d, dv => by
    rw [d.nil]
    exact DKV.mk dv ⟨rfl, rfl⟩
  | (j, u) :: r, _, k, w, v, hn, d, dv => by
    obtain ⟨v', vs', rfl, d1, d2⟩ := d.cons
    rw [List.map_cons, List.nodup_cons] at hn
    rw [putK_cons j v' vs' k v fun e q hq z => hn.1 (by rw [d2.1]; exact List.mem_map.mpr ⟨q, hq, z.trans e.symm⟩)]
    unfold putW
    by_cases e : j = k
    · rw [if_pos e, if_pos e]
      exact DKV.mk dv d2
    · rw [if_neg e, if_neg e]
      exact DKV.mk d1 (DKV.put hn.2 d2 dv)
theorem putW_keys : ∀ {kvs : List (κ × W)} {k : κ} {w : W}, (putW kvs k w).map (·.1) = if k ∈ kvs.map (·.1) then kvs.map (·.1) else kvs.map (·.1) ++ [k]
  | [], k, w => by simp [putW]
  | (j, u) :: r, k, w => by
    unfold putW
    by_cases e : j = k
    · simp [e]
    · rw [if_neg e]
      simp only [List.map_cons, putW_keys (kvs := r), List.mem_cons]
      have : ¬ k = j := fun z => e z.symm
      simp only [this, false_or]
      split <;> rfl
theorem putW_nodup {kvs : List (κ × W)} {k : κ} {w : W} (h : (kvs.map (·.1)).Nodup) : ((putW kvs k w).map (·.1)).Nodup := by
  rw [putW_keys]
  split
  · exact h
  · rename_i hk
    rw [List.nodup_append]
    exact ⟨h, by simp, fun a ha b hb => by simp at hb; subst hb; exact fun z => hk (z ▸ ha)⟩
theorem valW_put : ∀ {kvs : List (κ × W)} {k j : κ} {w : W}, valW (putW kvs k w) j = if k = j then some w else valW kvs j
  | [], k, j, w => by simp [putW, valW]
  | (i, u) :: r, k, j, w => by
    unfold putW
    by_cases e : i = k
    · subst e
      rw [if_pos rfl]
      simp only [valW]
      split <;> rfl
    · rw [if_neg e]
      simp only [valW, valW_put (kvs := r)]
      by_cases z : i = j
      · subst z
        have : ¬ k = i := fun q => e q.symm
        simp [this]
      · simp [z]
end
section
variable {X : Cx} {e a b c : Expr} {es : List Expr} {st : Stmt} {sts : List Stmt} {G : Gs} {mu mu' : Mu} {pos p apos cpos : Pos} {P : PW1}
/-- a dict cell whose keys differ -/
abbrev isDic (mu : Mu) (a : Addr) (kvs : List (Key × W)) : Prop := mu a = some (.dic kvs) ∧ (kvs.map (·.1)).Nodup
theorem newDic {K : PySem.W.Frag} {H : Hp} {p : Addr} {vs : List (Key × V)} {kvs : List (Key × W)} (d : DKV K H kvs vs) : ∀ H', (∀ a xs, SqT K H a xs → SqT K H' a xs) → H' p = some (.dK vs) → CellOk K H' p (.dic kvs) := fun H' st h => ⟨vs, h, d.1, DenAll.mono st _ d.2⟩
theorem se_dnew (h : ∀ p, mu p = none → P (.m p) (setM mu p (.dic []))) : SE X (.Dict [] [] pos) G mu P :=
  SE.mk pe_dnewK fun σ H Q d m k => fun p hp => by
    obtain ⟨c2, m2⟩ := laidC (o := .dK []) (c := .dic []) m hp (newDic (kvs := []) ⟨rfl, rfl⟩)
    exact k _ _ _ _ (h p (m.dom hp)) c2 rfl m2
/-- a key as a value -/
def keyOf : W → Option Key
  | .int i => some (.inl i)
  | .str x => some (.inr x)
  | _ => none
theorem keyOf_den {K : PySem.W.Frag} {H : Hp} {w : W} {v : V} {k : Key} (h : keyOf w = some k) (d : Den K H w v) : v = kV k := by
  cases w with
  | int i => cases h; exact d
  | str i => cases h; exact d
  | _ => cases h
abbrev dgW (w1 w2 : W) (mu : Mu) (P : PW1) : Prop := ∃ a kvs k w, w1 = .m a ∧ mu a = some (.dic kvs) ∧ keyOf w2 = some k ∧ valW kvs k = some w ∧ P w mu
theorem se_dget (hu : X.A.units + 1 < cLine) (h : SE X a G mu fun w1 mu1 => SE X b G mu1 fun w2 mu2 => dgW w1 w2 mu2 P) (hs : NoSl b := by exact fun _ _ => rfl) : SE X (.Subscript a b pos) G mu P :=
  SE.mk (pe_dget hu peE peE hs) fun σ H Q d m k => h σ H _ d m fun x w1 mu1 H1 h1 c1 d1 m1 => h1 σ H1 _ (c1.denG m d) m1 fun y w2 mu2 H2 h2 c2 d2 m2 => by
    obtain ⟨aa, kvs, kk, w, rfl, e, hk, hv, q⟩ := h2
    have d1 : x = .ref aa := d1
    subst d1
    obtain ⟨vs, hx, dk⟩ := m2 aa _ e
    obtain ⟨v, h1, h2⟩ := DKV.get (K := X.K) (H := H2) dk hv
    have e2 := keyOf_den hk d2
    subst e2
    exact ⟨aa, v, rfl, h1 ▸ DGet.k hx, k _ _ _ _ q (c1.trans c2) h2 m2⟩
abbrev dpW (w1 w2 w : W) (G : Gs) (mu : Mu) (N : Gs → Mu → Prop) : Prop := ∃ a kvs k, w1 = .m a ∧ isDic mu a kvs ∧ keyOf w2 = some k ∧ kvs.length < sizeLine ∧ N G (setM mu a (.dic (putW kvs k w)))
theorem ss_dput {E : WE} {pos' : Pos} (hu : X.A.units + 1 < cLine) (h : SE X e G mu fun w mu1 => SE X a G mu1 fun w1 mu2 => SE X b G mu2 fun w2 mu3 => dpW w1 w2 w G mu3 E.nx)
    (hs : swapsWith e (some (.Subscript a b pos')) pos.line X.env = pure false := by rfl) : SS X (.Assign [.Subscript a b pos'] e pos) G mu E :=
  SS.mk (ps_dput hu peE peE peE hs) fun σ H D d m k => h σ H _ d m fun v w mu1 H1 h1 c1 d1 m1 => h1 σ H1 _ (c1.denG m d) m1 fun x w1 mu2 H2 h2 c2 d2 m2 => h2 σ H2 _ ((c1.trans c2).denG m d) m2 fun y w2 mu3 H3 h3 c3 d3 m3 => by
    obtain ⟨aa, kvs, kk, rfl, ⟨e, hn⟩, hk, hl, q⟩ := h3
    have d2 : x = .ref aa := d2
    subst d2
    have d1 := c3.den m2 (c2.den m1 d1)
    obtain ⟨vs, hx, dk⟩ := m3 aa _ e
    have e2 := keyOf_den hk d3
    subst e2
    have dk : DKV X.K H3 kvs vs := dk
    obtain ⟨c4, m4⟩ := wrote (o := .dK (putK vs kk v)) (c := .dic (putW kvs kk w)) m3 e (newDic (dk.put hn d1))
    have cc := (c1.trans c2).trans c3
    refine ⟨aa, _, rfl, DPut.k hx ?_, k.nx _ _ _ _ q (cc.trans c4) (c4.denG m3 (cc.denG m d)) m4⟩
    have := congrArg List.length dk.1
    simp only [List.length_map] at this
    omega
/-! a display of a dict with texts as keys -/
def trsX (X : Cx) : List (Option Expr) → List Expr → List (TE × TE)
  | some k :: ks, v :: vs => (tE X k, tE X v) :: trsX X ks vs
  | _, _ => []
def SPs (X : Cx) : List (Option Expr) → List Expr → Gs → Mu → (List (W × W) → Mu → Prop) → Prop
  | some k :: ks, v :: vs, G, mu, Post => SE X k G mu fun w mu1 => SE X v G mu1 fun u mu2 => SPs X ks vs G mu2 fun ps mu3 => Post ((w, u) :: ps) mu3
  | [], [], G, mu, Post => Post [] mu
  | _, _, _, _, _ => False
theorem pps_all : ∀ (ks : List (Option Expr)) (vs : List Expr), (ks.all fun x => x.isSome) = true → ks.length = vs.length → PPs X pos ks vs (trsX X ks vs)
  | [], [], _, _ => pps_nil
  | some k :: ks, v :: vs, h, hl => pps_cons peE peE (pps_all ks vs (by simpa using h) (by simpa using hl))
  | none :: ks, v :: vs, h, hl => by simp at h
  | [], v :: vs, h, hl => by simp at hl
  | k :: ks, [], h, hl => by simp at hl
abbrev DPs (K : PySem.W.Frag) (H : Hp) (ws : List (W × W)) (ps : List (V × V)) : Prop := DenAll K H (ws.map (·.1)) (ps.map (·.1)) ∧ DenAll K H (ws.map (·.2)) (ps.map (·.2)) ∧ ws.length = ps.length
theorem sps_rd : ∀ (ks : List (Option Expr)) (vs : List Expr) {G : Gs} {mu : Mu} {Post : List (W × W) → Mu → Prop} {σ : St} {H : Hp} {Q : List (V × V) → Hp → Prop}, SPs X ks vs G mu Post → DenG X.K H G σ → HM X.K H mu →
    (∀ ws ps mu' H', Post ws mu' → Chg mu H mu' H' → DPs X.K H' ws ps → HM X.K H' mu' → Q ps H') → tPairs (trsX X ks vs) σ H Q
  | [], [], G, mu, Post, σ, H, Q, h, d, m, k => k [] [] mu H h Chg.refl ⟨rfl, rfl, rfl⟩ m
  | some kk :: ks, v :: vs, G, mu, Post, σ, H, Q, h, d, m, k => by
    unfold SPs at h
    show tE X kk σ H _
    refine h σ H _ d m fun x w mu1 H1 h1 c1 d1 m1 => h1 σ H1 _ (c1.denG m d) m1 fun y u mu2 H2 h2 c2 d2 m2 => ?_
    refine sps_rd ks vs h2 ((c1.trans c2).denG m d) m2 fun ws ps mu3 H3 h3 c3 d3 m3 => k _ _ _ _ h3 ((c1.trans c2).trans c3) ⟨⟨x, _, rfl, c3.den m2 (c2.den m1 d1), d3.1⟩, ⟨y, _, rfl, c3.den m2 d2, d3.2.1⟩, by simp [d3.2.2]⟩ m3
  | none :: ks, v :: vs, G, mu, Post, σ, H, Q, h, d, m, k => by unfold SPs at h; exact h.elim
  | [], v :: vs, G, mu, Post, σ, H, Q, h, d, m, k => by unfold SPs at h; exact h.elim
  | some kk :: ks, [], G, mu, Post, σ, H, Q, h, d, m, k => by unfold SPs at h; exact h.elim
  | none :: ks, [], G, mu, Post, σ, H, Q, h, d, m, k => by unfold SPs at h; exact h.elim
theorem dps_keys {K : PySem.W.Frag} {H : Hp} : ∀ {kvs : List (Key × W)} {ps : List (V × V)}, DPs K H (kvs.map fun q => (kW q.1, q.2)) ps → ∃ vs : List (Key × V), ps = vs.map (fun kv => (kV kv.1, kv.2)) ∧ DKV K H kvs vs
  | [], ps, d => by
    cases ps with
    | nil => exact ⟨[], rfl, rfl, rfl⟩
    | cons q r => cases d.2.2
  | (kk, w) :: r, ps, d => by
    cases ps with
    | nil => cases d.2.2
    | cons q ps =>
      obtain ⟨x, y⟩ := q
      obtain ⟨⟨v1, r1, e1, a1, t1⟩, ⟨v2, r2, e2, a2, t2⟩, hl⟩ := d
      simp only [List.map_cons, List.cons.injEq] at e1 e2
      obtain ⟨rfl, rfl⟩ := e1
      obtain ⟨rfl, rfl⟩ := e2
      obtain ⟨vs, rfl, dk⟩ := dps_keys (kvs := r) (ps := ps) ⟨t1, t2, by simpa using hl⟩
      have e3 := kW_den a1
      exact ⟨(kk, y) :: vs, by simp [e3], DKV.mk a2 dk⟩
theorem mergeK_new : ∀ (vs acc : List (Key × V)), ((acc ++ vs).map (·.1)).Nodup → mergeK acc vs = acc ++ vs
  | [], acc, _ => by simp [mergeK]
  | (kk, v) :: vs, acc, h => by
    have hn : valV acc kk = none := by
      unfold valV
      rw [Option.map_eq_none_iff, List.find?_eq_none]
      intro q hq z
      have z := of_decide_eq_true z
      rw [List.map_append, List.nodup_append] at h
      exact h.2.2 q.1 (List.mem_map.mpr ⟨q, hq, rfl⟩) kk (by simp) z
    show mergeK (putK acc kk v) vs = _
    rw [putK_new _ hn, mergeK_new vs _ (by simpa using h)]
    simp
theorem se_disp {keys : List (Option Expr)} {values : List Expr} (h : SPs X keys values G mu fun ws mu1 => ∃ kvs : List (Key × W), ws = kvs.map (fun q => (kW q.1, q.2)) ∧ (kvs.map (·.1)).Nodup ∧ kvs.length ≤ 15 ∧ ∀ p, mu1 p = none → P (.m p) (setM mu1 p (.dic kvs)))
    (h1 : (keys.all fun x => x.isSome) = true := by rfl) (h2 : keys.length = values.length := by rfl) (h3 : keys ≠ [] := by exact fun z => by cases z) (h4 : keys.length ≤ 15 := by decide) : SE X (.Dict keys values pos) G mu P :=
  SE.mk (pe_disp (pps_all keys values h1 h2) h1 h2 h3 h4) fun σ H Q d m k => fun p hp => by
    obtain ⟨c0, m0⟩ := laid (o := .dK []) m hp
    refine sps_rd keys values h (c0.denG m d) m0 fun ws ps mu1 H1 ⟨kvs, e, hn, hl, q⟩ c1 d1 m1 => ?_
    have hp1 : H1 p = some (.dK []) := c1.keep _ _ upd_same (m.dom hp)
    have np : mu1 p = none := c1.new _ _ upd_same (m.dom hp)
    subst e
    obtain ⟨vs, rfl, dk⟩ := dps_keys d1
    refine ⟨hp1, vs, rfl, ?_, ?_⟩
    · have := congrArg List.length dk.1
      simp only [List.length_map] at this
      omega
    · have em : mergeK [] vs = vs := by rw [mergeK_new vs [] (by rw [List.nil_append, ← dk.1]; exact hn)]; rfl
      rw [em]
      have sq : ∀ a xs, SqT X.K H1 a xs → SqT X.K (upd H1 p (.dK vs)) a xs := fun a xs s => by
        rcases s with (s | ⟨o, s⟩) | s
        · exact .inl (.inl (by rw [upd_ne (ne_of s hp1 (by intro z; cases z))]; exact s))
        · exact .inl (.inr ⟨o, by rw [upd_ne (ne_of s hp1 (by intro z; cases z))]; exact s⟩)
        · exact .inr s
      refine k (.ref p) (.m p) (setM mu1 p (.dic kvs)) _ (q p np) ⟨fun b o hb n => ?_, fun b cc hb => ?_, fun b o hb n => ?_⟩ rfl fun a cc ha => ?_
      · rw [upd_ne (ne_of_none hb hp)]
        exact (c0.trans c1).keep b o hb n
      · by_cases z : b = p
        · subst z; exact ⟨_, setM_same⟩
        · rw [setM_ne z]; exact (c0.trans c1).old b cc hb
      · rw [setM_ne (ne_of_none hb hp)]
        exact (c0.trans c1).new b o hb n
      · by_cases z : a = p
        · subst z
          rw [setM_same] at ha
          cases ha
          exact ⟨vs, upd_same, dk.1, DenAll.mono sq _ dk.2⟩
        · rw [setM_ne z] at ha
          exact CellOk.mono sq (m1 a cc ha) (upd_ne z)
/-! fields -/
abbrev fldW (K : PySem.W.Frag) (f : Str) (w : W) (mu : Mu) (P : PW1) : Prop := ∃ a Cl fs u, w = .m a ∧ mu a = some (.ins Cl fs) ∧ Cls K Cl ∧ NoAttr K Cl f ∧ valW fs f = some u ∧ P u mu
theorem lookup_valV : ∀ (vs : List (Str × V)) (f : Str), List.lookup f vs = valV vs f
  | [], f => rfl
  | (j, v) :: r, f => by
    by_cases e : j = f
    · subst e
      simp [List.lookup, valV]
    · have h1 : (f == j) = false := by simpa using fun z => e z.symm
      rw [List.lookup, h1, lookup_valV r f]
      unfold valV
      simp only [List.find?, e, decide_false]
theorem se_fld {f : Str} (h : SE X a G mu fun w mu1 => fldW X.K f w mu1 P) (hb : attributeBase a f X.env (eval a X.env) = eval a X.env := by rfl) : SE X (.Attribute a f pos) G mu P :=
  SE.mk (pe_fld peE hb) fun σ H Q d m k => h σ H _ d m fun x w mu1 H1 ⟨aa, Cl, fs, u, e, hm, hc, hn, hv, q⟩ c1 d1 m1 => by
    subst e
    have d1 : x = .ref aa := d1
    subst d1
    obtain ⟨dx, vs, hx, dk⟩ := m1 aa _ hm
    obtain ⟨v, h1, h2⟩ := DKV.get (K := X.K) (H := H1) dk hv
    exact ⟨aa, Cl, dx, vs, v, rfl, hx, hc, hn, (lookup_valV vs f).trans h1, k _ _ _ _ q c1 h2 m1⟩
end
end Dv
set_option Elab.async false
set_option linter.all false
set_option maxRecDepth 100000
/-! Pure defs: their result is a function of the arguments, old cells stay. -/
namespace Dv
open PySem L2
def Ext (mu mu' : Mu) : Prop := ∀ a c, mu a = some c → mu' a = some c
theorem Ext.refl {mu : Mu} : Ext mu mu := fun _ _ h => h
theorem Ext.trans {mu mu' mu'' : Mu} (a : Ext mu mu') (b : Ext mu' mu'') : Ext mu mu'' := fun c d h => b c d (a c d h)
theorem Ext.set {mu mu' : Mu} {p : Addr} {c : C} (e : Ext mu mu') (h : mu p = none) : Ext mu (setM mu' p c) := fun a d ha => by
  rw [setM_ne fun z => by rw [z, h] at ha; cases ha]
  exact e a d ha
theorem Ext.none {mu mu' : Mu} {p : Addr} (e : Ext mu mu') (h : mu' p = none) : mu p = none := by
  cases q : mu p with
  | none => rfl
  | some c => rw [e p c q] at h; cases h
theorem bW_split {k : Bool} {A B : Prop} (ht : k = true → A) (hf : k = false → B) : bW (.bl k) A B := by
  cases k with
  | true => exact ht rfl
  | false => exact hf rfl
theorem if2_split {k : Bool} {A B : Prop} (ht : k = true → A) (hf : k = false → B) : if2 k A B := by
  cases k with
  | true => exact ht rfl
  | false => exact hf rfl
theorem bW_t {k : Bool} {A B : Prop} (h : k = true) (a : A) : bW (.bl k) A B := by subst h; exact a
theorem bW_f {k : Bool} {A B : Prop} (h : k = false) (a : B) : bW (.bl k) A B := by subst h; exact a
theorem if2_t {k : Bool} {A B : Prop} (h : k = true) (a : A) : if2 k A B := by subst h; exact a
theorem if2_f {k : Bool} {A B : Prop} (h : k = false) (a : B) : if2 k A B := by subst h; exact a
/-- a pure def's promise -/
def spF (f : List W → Option W) : SpW := fun ws mu P => ∃ r, f ws = some r ∧ ∀ mu', Ext mu mu' → P r mu'
section
variable {X : Cx} {e a b c elt t : Expr} {G : Gs} {mu mu1 : Mu} {P : PW1}
theorem lc_pure {B : (Cx → Prop) → Prop} {T : Tg} {vs : List Nat} {ws : List W} {Gm : Mu → Prop} (g : W → W) (hG : ∀ mu', Ext mu1 mu' → Gm mu') (hl : ws.length ≤ sizeLine)
    (hs : ∀ w mu', w ∈ ws → Ext mu1 mu' → ∃ G2, T.bind w (wipeG G vs) = some G2 ∧ B fun Y => SE Y elt G2 mu' fun r mu4 => r = g w ∧ Ext mu' mu4)
    (hB : ∀ {p q : Cx → Prop}, (∀ Y, p Y → q Y) → B p → B q)
    (hd : ∀ D mu', mu1 D = none → Ext mu1 mu' → Ext mu1 (setM mu' D (.lst (ws.map g))) → P (.m D) (setM mu' D (.lst (ws.map g)))) : lcPost B T elt vs G P ws Gm mu1 := by
  intro D hD
  refine ⟨fun i acc mu' => acc = (ws.take i).map g ∧ Ext mu1 mu', ⟨rfl, Ext.refl⟩, fun i acc mu' _ q => hG mu' q.2, fun i w acc mu' hw q => ?_, fun acc mu' q => ?_⟩
  · obtain ⟨rfl, q⟩ := q
    have hi : i < ws.length := (List.getElem?_eq_some_iff.mp hw).1
    refine ⟨by rw [List.length_map, List.length_take]; omega, ?_⟩
    obtain ⟨G2, hb, he⟩ := hs w mu' (List.mem_of_getElem? hw) q
    refine ⟨G2, hb, hB (fun Y h σ H Q d m k => h σ H Q d m fun v r mu4 H4 h4 => k v r mu4 H4 ⟨?_, q.trans h4.2⟩) he⟩
    rw [List.take_add_one, hw, List.map_append, h4.1]
    rfl
  · obtain ⟨rfl, q⟩ := q
    rw [List.take_length]
    exact hd D mu' hD q (q.set hD)
/-- all of a comprehension whose items all give True -/
theorem lc_all_t {B : (Cx → Prop) → Prop} {T : Tg} {vs : List Nat} {ws : List W} {Gm : Mu → Prop} (hG : ∀ mu', Ext mu1 mu' → Gm mu') (hl : ws.length ≤ sizeLine) (hB : ∀ {p q : Cx → Prop}, (∀ Y, p Y → q Y) → B p → B q)
    (hs : ∀ w mu', w ∈ ws → Ext mu1 mu' → ∃ G2, T.bind w (wipeG G vs) = some G2 ∧ B fun Y => SE Y elt G2 mu' fun r mu4 => r = .bl true ∧ Ext mu' mu4)
    (hd : ∀ mu', Ext mu1 mu' → P (.bl true) mu') : lcPost B T elt vs G (fun w mu2 => allW [w] mu2 P) ws Gm mu1 :=
  lc_pure (fun _ => .bl true) hG hl hs hB fun D mu' hD he he2 => ⟨ws.map fun _ => true, by rw [setM_same, List.map_map]; rfl, by
    have : (ws.map fun _ => true).all id = true := by simp
    rw [this]
    exact hd _ he2⟩
/-- any, all of a comprehension by a function of the items -/
theorem lc_any_g {B : (Cx → Prop) → Prop} {T : Tg} {vs : List Nat} {ws : List W} {Gm : Mu → Prop} (g : W → Bool) (hG : ∀ mu', Ext mu1 mu' → Gm mu') (hl : ws.length ≤ sizeLine) (hB : ∀ {p q : Cx → Prop}, (∀ Y, p Y → q Y) → B p → B q)
    (hs : ∀ w mu', w ∈ ws → Ext mu1 mu' → ∃ G2, T.bind w (wipeG G vs) = some G2 ∧ B fun Y => SE Y elt G2 mu' fun r mu4 => r = .bl (g w) ∧ Ext mu' mu4)
    (hd : ∀ mu', Ext mu1 mu' → P (.bl (ws.any g)) mu') : lcPost B T elt vs G (fun w mu2 => anyW [w] mu2 P) ws Gm mu1 :=
  lc_pure (fun w => .bl (g w)) hG hl hs hB fun D mu' hD he he2 => ⟨ws.map g, by rw [setM_same, List.map_map]; rfl, by
    have : (ws.map g).any id = ws.any g := by rw [List.any_map]; rfl
    rw [this]
    exact hd _ he2⟩
theorem lc_all_g {B : (Cx → Prop) → Prop} {T : Tg} {vs : List Nat} {ws : List W} {Gm : Mu → Prop} (g : W → Bool) (hG : ∀ mu', Ext mu1 mu' → Gm mu') (hl : ws.length ≤ sizeLine) (hB : ∀ {p q : Cx → Prop}, (∀ Y, p Y → q Y) → B p → B q)
    (hs : ∀ w mu', w ∈ ws → Ext mu1 mu' → ∃ G2, T.bind w (wipeG G vs) = some G2 ∧ B fun Y => SE Y elt G2 mu' fun r mu4 => r = .bl (g w) ∧ Ext mu' mu4)
    (hd : ∀ mu', Ext mu1 mu' → P (.bl (ws.all g)) mu') : lcPost B T elt vs G (fun w mu2 => allW [w] mu2 P) ws Gm mu1 :=
  lc_pure (fun w => .bl (g w)) hG hl hs hB fun D mu' hD he he2 => ⟨ws.map g, by rw [setM_same, List.map_map]; rfl, by
    have : (ws.map g).all id = ws.all g := by rw [List.all_map]; rfl
    rw [this]
    exact hd _ he2⟩
theorem InBlk.mono {scope : Scope} {p q : Cx → Prop} (h : ∀ Y, p Y → q Y) (hp : InBlk X scope p) : InBlk X scope q := fun s H C cl fp => h _ (hp s H C cl fp)
/-- weaken what is wanted -/
theorem SE.imp {P Q : PW1} (h : SE X e G mu P) (f : ∀ w mu', P w mu' → Q w mu') : SE X e G mu Q := fun σ H R d m k => h σ H R d m fun v w mu' H' q => k v w mu' H' (f w mu' q)
/-- a comprehension with a test -/
theorem lc_filter {B : (Cx → Prop) → Prop} {T : Tg} {vs : List Nat} {ws : List W} {Gm : Mu → Prop} (p : W → Bool) (g : W → W) (hG : ∀ mu', Ext mu1 mu' → Gm mu') (hl : ws.length ≤ sizeLine)
    (hs : ∀ w mu', w ∈ ws → Ext mu1 mu' → ∃ G2, T.bind w (wipeG G vs) = some G2 ∧ B fun Y => ST Y t G2 mu' fun b mu3 => b = p w ∧ Ext mu' mu3 ∧ (p w = true → B fun Z => SE Z elt G2 mu3 fun r mu4 => r = g w ∧ Ext mu' mu4))
    (hB : ∀ {p q : Cx → Prop}, (∀ Y, p Y → q Y) → B p → B q)
    (hd : ∀ D mu', mu1 D = none → Ext mu1 mu' → Ext mu1 (setM mu' D (.lst ((ws.filter p).map g))) → P (.m D) (setM mu' D (.lst ((ws.filter p).map g)))) : lcPost1 B T elt t vs G P ws Gm mu1 := by
  intro D hD
  refine ⟨fun i acc mu' => acc = ((ws.take i).filter p).map g ∧ Ext mu1 mu', ⟨rfl, Ext.refl⟩, fun i acc mu' _ q => hG mu' q.2, fun i w acc mu' hw q => ?_, fun acc mu' q => ?_⟩
  · obtain ⟨rfl, q⟩ := q
    have hi : i < ws.length := (List.getElem?_eq_some_iff.mp hw).1
    refine ⟨?_, ?_⟩
    · rw [List.length_map]
      have h1 := List.length_filter_le p (ws.take i)
      rw [List.length_take] at h1
      omega
    obtain ⟨G2, hb, he⟩ := hs w mu' (List.mem_of_getElem? hw) q
    refine ⟨G2, hb, hB (fun Y h σ H Q d m k => h σ H Q d m fun b mu3 H3 h3 => k b mu3 H3 ?_) he⟩
    obtain ⟨e1, e2, e3⟩ := h3
    have tk : ws.take (i + 1) = ws.take i ++ [w] := by rw [List.take_add_one, hw]; rfl
    cases b with
    | true =>
      refine hB (fun Z h4 => SE.imp h4 fun r mu4 h5 => ⟨?_, q.trans h5.2⟩) (e3 e1.symm)
      rw [tk, List.filter_append, List.map_append, h5.1]
      simp [← e1]
    | false =>
      show _ ∧ _
      refine ⟨?_, q.trans e2⟩
      rw [tk, List.filter_append, List.map_append]
      simp [← e1]
  · obtain ⟨rfl, q⟩ := q
    rw [List.take_length]
    exact hd D mu' hD q (q.set hD)
end
/-! ### defs as they stand behind the top -/
structure Dfn (K : PySem.W.Frag) (mg : Str → Option Value) (x : Str) (st : Stmt) (ps : List Str) : Prop where
  ex : ∃ f fd, Fun K x x st f fd ∧ mg x = some (.ref f) ∧ Binds K fd ps []
structure DefOk (P : Program) (w : World) (K : PySem.W.Frag) (mg : Str → Option Value) (base : Heap) (x : Str) (ps : List Str) (k : Nat) (S : SpW) : Prop where
  ex : ∃ f fd, FnOk P w K mg base CX0 k f fd ps (spW K S) ∧ mg x = some (.ref f) ∧ PySem.W.keepIn K (.ref f) = true ∧ Binds K fd ps []
section
variable {P : Program} {w : World} {K : PySem.W.Frag} {mg : Str → Option Value} {base : Heap}
theorem dfnOk {x : Str} {st : Stmt} {N ps : List Str} {k : Nat} {S : SpW} (D : Dfn K mg x st ps) (Sc : FnScope N ps (defScope st)) (len : ∀ ws mu P, S ws mu P → ws.length = ps.length)
    (body : ∀ (f : Addr) (cdv : Value) (A : Around) (outer : List Env) (s : Shared) (H : Hp) (E : XK), Room k (A.deeper (PyProof.Rows.envOfC x (defScope st) s.heap.objs.size f cdv)) → ∀ ws mu Pt, S ws mu Pt →
      SSs (cxOf CX0 P w K mg base N x (defScope st) f cdv A outer s H E).nox (defBody st) (startW N ws) mu { nx := fun _ mu' => Pt .non mu', rt := Pt }) : DefOk P w K mg base x ps (k + 1) S := by
  obtain ⟨f, fd, F, hm, hb⟩ := D.ex
  exact ⟨f, fd, okW F Sc len (body f), hm, F.kp, hb⟩
end
section
variable {X : Cx} {e : Expr} {es : List Expr} {G : Gs} {mu : Mu} {pos p : Pos} {P : PW1}
theorem se_callD {x : Str} {ps : List Str} {k : Nat} {S : SpW} (D : DefOk X.prog X.w X.K X.mg X.base x ps k S) (hr : Room k X.A) (h : SA X (e :: es) G mu fun ws mu1 => S ws mu1 P)
    (hg : Gl X x := by rfl) (hdb : (x == ("__debug__" : Str)) = false := by decide) (he : starEach (e :: es) X.env = (false, eval e X.env) :: starEach es X.env := by rfl) (hpl : (backTo pos (starEach es X.env)).any (·.1) = false := by rfl) : SE X (.Call (.Name x p) (e :: es) [] pos) G mu P := by
  obtain ⟨f, fd, F, hm, hk, hb⟩ := D.ex
  exact se_call F hr hm hk hb h hg hdb he hpl
theorem se_all (h : SE X e G mu fun w mu1 => allW [w] mu1 P) (hm : X.mg "all" = none) (hc : X.calm = true := by rfl) (hg : Gl X "all" := by rfl) (he : starEach [e] X.env = [(false, eval e X.env)] := by rfl) (hpl : (backTo pos (starEach [] X.env)).any (·.1) = false := by rfl) :
    SE X (.Call (.Name "all" p) [e] [] pos) G mu P := se_blt (cr_all hc) all_w hm (sa_one h he) (by decide +kernel) hg (by decide) (by decide) he hpl
theorem se_any (h : SE X e G mu fun w mu1 => anyW [w] mu1 P) (hm : X.mg "any" = none) (hc : X.calm = true := by rfl) (hg : Gl X "any" := by rfl) (he : starEach [e] X.env = [(false, eval e X.env)] := by rfl) (hpl : (backTo pos (starEach [] X.env)).any (·.1) = false := by rfl) :
    SE X (.Call (.Name "any" p) [e] [] pos) G mu P := se_blt (cr_any hc) any_w hm (sa_one h he) (by decide +kernel) hg (by decide) (by decide) he hpl
theorem se_tupleC (h : SE X e G mu fun w mu1 => tupleW [w] mu1 P) (hm : X.mg "tuple" = none) (hg : Gl X "tuple" := by rfl) (he : starEach [e] X.env = [(false, eval e X.env)] := by rfl) (hpl : (backTo pos (starEach [] X.env)).any (·.1) = false := by rfl) :
    SE X (.Call (.Name "tuple" p) [e] [] pos) G mu P := se_bty call_tuple_of tuple_w hm (sa_one h he) (by decide +kernel) hg (by decide) (by decide) he hpl
/-! a text's signs -/
theorem itw_str {K : PySem.W.Frag} {H : Hp} {mu : Mu} {z : Str} : ItW K (Its z) (z.cps.toList.map fun c => W.str ⟨#[c]⟩) (fun _ => True) mu H := by
  refine ⟨fun _ => True, fun i H v H' => H' = H ∧ ∃ c, z.cps[i]? = some c ∧ v = .str ⟨#[c]⟩, by rw [List.length_map]; exact walk_str (z := z), fun _ _ _ _ _ => trivial, fun i H1 x H2 mu' hi c m' _ ⟨e, cc, h1, h2⟩ => ?_⟩
  subst e h2
  refine ⟨.str ⟨#[cc]⟩, ?_, Chg.refl, m', rfl⟩
  rw [List.getElem?_map, Array.getElem?_toList, h1]
  rfl
theorem si_str {tg iter : Expr} {Post : List W → (Mu → Prop) → Mu → Prop} (h : SE X iter G mu fun w mu1 => match w with | .str z => Post (z.cps.toList.map fun c => W.str ⟨#[c]⟩) (fun _ => True) mu1 | _ => False) : SI X tg iter G mu Post :=
  SI.mk (pi_str peE) fun σ H R d m k => h σ H _ d m fun v w mu1 H1 h1 c1 d1 m1 => by
    cases w with
    | str z => exact ⟨z, d1, k _ _ _ _ _ h1 c1 m1 itw_str⟩
    | _ => exact False.elim h1
theorem si_items {tg : Expr} {i : Nat} {x : Str} {w : W} {pos : Pos} {Post : List W → (Mu → Prop) → Mu → Prop} (hG : G[i]? = some (some w)) (h : itemsW w mu Post) (hN : X.N[i]? = some x := by rfl) (hv : Vis X.env.scope x := by first | exact Or.inl rfl | exact Or.inr (Or.inl rfl) | exact Or.inr (Or.inr rfl))
    (hd : (x == ("__debug__" : Str)) = false := by decide) (hcd : (x == ("__classdict__" : Str)) = false := by decide) : SI X tg (.Name x pos) G mu Post := by
  cases w with
  | tup ws => exact si_tup (se_var hG h hN hv hd hcd)
  | m a => exact si_lst (se_var hG h hN hv hd hcd)
  | _ => exact False.elim h
/-! x *= e -/
theorem ip_mulS : PIp X .Mult (fun x y H Q => ∃ i j, x = .int i ∧ y = .int j ∧ CMulW i j ∧ Q (.int (i * j)) H) := by
  intro pins s σ H x y v u Q I r1 r2 ⟨i, j, e1, e2, hc, q⟩
  subst e1 e2
  obtain ⟨t, rfl⟩ := r1
  obtain ⟨t', rfl⟩ := r2
  exact PyProof.Rows.imul_int ⟨.int _, H, I.tok _, ⟨_, rfl⟩, q⟩ hc.ok
theorem ss_augMul {i : Nat} {x : Str} {E : WE} {pos' : Pos} {w : W} (hG : G[i]? = some (some w)) (h : SE X e G mu fun w2 mu1 => match w, w2 with | .int a, .int b => CMulW a b ∧ E.nx (G.set i (some (.int (a * b)))) mu1 | _, _ => False) (hN : X.N.Nodup) (hi : X.N[i]? = some x := by rfl) (hx : Loc X.env.scope x := by first | exact .inl rfl | exact .inr rfl)
    (hf : X.fn x = true ∨ X.env.scope.names.lookup x = some .local := by first | exact .inl rfl | exact .inr rfl) : SS X (.AugAssign (.Name x pos') .Mult e pos) G mu E :=
  SS.mk (ps_aug hN hi hx peE ip_mulS hf) fun σ H D d m k => by
    obtain ⟨v, hv, dv⟩ := d.2 i w hG
    refine ⟨v, hv, h σ H _ d m fun y w2 mu1 H1 h1 c1 d1 m1 => ?_⟩
    have dv := c1.den m dv
    cases w with
    | int a =>
      cases w2 with
      | int b => exact ⟨a, b, dv, d1, h1.1, k.nx _ _ _ _ h1.2 c1 (DenG.set (c1.denG m d) rfl) m1⟩
      | _ => exact False.elim h1
    | _ => cases w2 <;> exact False.elim h1
abbrev inCW (w1 w2 : W) (mu : Mu) (P : PW1) : Prop := ∃ c z, w1 = .str ⟨#[c]⟩ ∧ w2 = .str z ∧ P (.bl (decide (c ∈ z.cps.toList))) mu
theorem inC_w : OpW X (fun x y H Q => ∃ (c : Nat) (z : Str), x = .str ⟨#[c]⟩ ∧ y = .str z ∧ Q (.bl (decide (c ∈ z.cps.toList))) H) inCW := fun w1 w2 x y mu H P Q dx dy m ⟨c, z, e1, e2, h⟩ k => by
  subst e1 e2
  exact ⟨c, z, dx, dy, k.now h rfl m⟩
end
end Dv
set_option Elab.async false
set_option linter.all false
set_option maxRecDepth 100000
/-! Worlds as plW data, and what is asked of them. -/
namespace K1
open PySem L2 Dv
abbrev Slot := Str × Str × List Str
abbrev Pat := List (Str × Str)
abbrev Lap := Str × Pat × Pat
structure Wd where
  houses : List Str
  slots : List Slot
  bears : List Pat
  never : List Pat
  lapses : List Lap
/-- small letters -/
def NmOk (z : Str) : Prop := 1 ≤ z.length ∧ z.length ≤ 8 ∧ ∀ c ∈ z.cps.toList, 97 ≤ c ∧ c ≤ 122
def stW (ns : List Str) : List W := ns.map W.str
def nmW (ns : List Str) : W := .tup (stW ns)
def slW1 (s : Slot) : W := .tup [.str s.1, .str s.2.1, nmW s.2.2]
def slsW (ss : List Slot) : W := .tup (ss.map slW1)
def prW (q : Str × Str) : W := .tup [.str q.1, .str q.2]
def ptW (p : Pat) : W := .tup (p.map prW)
def ptsW (ps : List Pat) : W := .tup (ps.map ptW)
def lpW (l : Lap) : W := .tup [.str l.1, ptW l.2.1, ptW l.2.2]
def lpsW (ls : List Lap) : W := .tup (ls.map lpW)
theorem nm_len {z : Str} (h : NmOk z) : z.length ≤ sizeLine := Nat.le_trans h.2.1 (by decide)
theorem nm_ok {z : Str} (h : NmOk z) : PyData.canLay0 (.str z) = true := by
  unfold PyData.canLay0
  show (z.cps.all fun c => decide (c < 0x110000)) = true
  rw [← Array.all_toList, List.all_eq_true]
  intro c hc
  have := h.2.2 c hc
  simp
  omega
theorem dats_map {α : Type} (f : α → W) : ∀ xs : List α, dats (xs.map f) = xs.map fun x => dat (f x)
  | [] => by simp [dats]
  | x :: xs => by simp [dats, dats_map f xs]
theorem plains_map {α : Type} (f : α → W) (h : ∀ x, plW (f x) = true) : ∀ xs : List α, plsW (xs.map f) = true
  | [] => by simp [plsW]
  | x :: xs => by simp [plsW, h x, plains_map f h xs]
theorem plains_all : ∀ {ws : List W}, (∀ w ∈ ws, plW w = true) → plsW ws = true
  | [], _ => by simp [plsW]
  | w :: ws, h => by simp [plsW, h w (by simp), plains_all (ws := ws) fun v hv => h v (by simp [hv])]
theorem plain_str (z : Str) : plW (.str z) = true := by simp [plW]
theorem plain_pr (q : Str × Str) : plW (prW q) = true := by simp [prW, plW, plsW]
theorem plain_pt (p : Pat) : plW (ptW p) = true := by unfold ptW plW; exact plains_map _ plain_pr p
theorem plain_nm (ns : List Str) : plW (nmW ns) = true := by unfold nmW stW plW; exact plains_map _ plain_str ns
theorem lay_all {α : Type} (f : α → PyData) : ∀ {xs : List α}, (∀ x ∈ xs, (f x).canLay0 = true) → PyData.canLayAll0 (xs.map f) = true
  | [], _ => by simp [PyData.canLayAll0]
  | x :: xs, h => by simp [PyData.canLayAll0, h x (by simp), lay_all f (xs := xs) fun y hy => h y (by simp [hy])]
theorem depth_all {α : Type} (f : α → PyData) {n : Nat} : ∀ {xs : List α}, (∀ x ∈ xs, (f x).depth ≤ n) → PyData.depthAll (xs.map f) ≤ n
  | [], _ => by simp [PyData.depthAll]
  | x :: xs, h => by
    have h1 := h x (by simp)
    have h2 := depth_all f (n := n) (xs := xs) fun y hy => h y (by simp [hy])
    simp only [List.map_cons, PyData.depthAll]
    omega
theorem eqv_str (x y : Str) : PyData.eqv (.str x) (.str y) = decide (x = y) := by
  unfold PyData.eqv
  by_cases h : x = y
  · simp [h]
  · simp [h]
theorem any_str (ns : List Str) (h : Str) : ((dats (stW ns)).any fun z => PyData.eqv z (dat (.str h))) = decide (h ∈ ns) := by
  unfold stW
  rw [dats_map]
  induction ns with
  | nil => simp
  | cons n ns ih =>
    simp only [List.map_cons, List.any_cons, dat, eqv_str, ih] at ih ⊢
    by_cases e : n = h
    · simp [e]
    · have : ¬ h = n := fun z => e z.symm
      simp [e, this]
/-! data of one kind -/
def ltD (q : W × W) : Bool := PySem.W.dataLt (dat q.1) (dat q.2)
def rising (us : List W) : Bool := (us.zip us.tail).all ltD
def okUs (us : List W) : Prop := us.length ≤ sizeLine ∧ ∀ u ∈ us, plW u = true ∧ dat u ≠ .none ∧ (dat u).depth ≤ 64 ∧ ∀ v ∈ us, PySem.W.alike (dat u) (dat v) = true
theorem okUs_st {ns : List Str} (h : ns.length ≤ sizeLine) : okUs (stW ns) := by
  refine ⟨by rw [stW, List.length_map]; exact h, fun u hu => ?_⟩
  obtain ⟨n, hn, rfl⟩ := List.mem_map.mp hu
  refine ⟨plain_str n, by simp [dat], by simp [dat, PyData.depth], fun v hv => ?_⟩
  obtain ⟨n', hn', rfl⟩ := List.mem_map.mp hv
  simp [dat, PySem.W.alike]
theorem alike_pr (p q : Str × Str) : PySem.W.alike (dat (prW p)) (dat (prW q)) = true := by simp [prW, dat, dats, PySem.W.alike, PySem.W.alikeAll]
theorem alikeAll_prs : ∀ ps qs : List (Str × Str), PySem.W.alikeAll (dats (ps.map prW)) (dats (qs.map prW)) = true
  | [], _ => by simp [dats, PySem.W.alikeAll]
  | p :: ps, [] => by simp [dats, PySem.W.alikeAll]
  | p :: ps, q :: qs => by simp only [List.map_cons, dats, PySem.W.alikeAll, alike_pr, alikeAll_prs ps qs, Bool.and_self]
theorem alike_pt (p q : Pat) : PySem.W.alike (dat (ptW p)) (dat (ptW q)) = true := by
  unfold ptW
  simp only [dat, PySem.W.alike]
  exact alikeAll_prs p q
theorem depth_pr (q : Str × Str) : (dat (prW q)).depth ≤ 1 := by simp [prW, dat, dats, PyData.depth, PyData.depthAll]
theorem depth_pt (p : Pat) : (dat (ptW p)).depth ≤ 2 := by
  unfold ptW
  simp only [dat, PyData.depth]
  rw [dats_map]
  have := depth_all (fun q => dat (prW q)) (n := 1) (xs := p) fun q _ => depth_pr q
  omega
theorem okUs_pt {ps : List Pat} (h : ps.length ≤ sizeLine) : okUs (ps.map ptW) := by
  refine ⟨by rw [List.length_map]; exact h, fun u hu => ?_⟩
  obtain ⟨p, hp, rfl⟩ := List.mem_map.mp hu
  refine ⟨plain_pt p, by simp [ptW, dat], Nat.le_trans (depth_pt p) (by decide), fun v hv => ?_⟩
  obtain ⟨q, hq, rfl⟩ := List.mem_map.mp hv
  exact alike_pt p q
/-! what worlds ask -/
structure HsOk (hs : List Str) : Prop where
  lo : 1 ≤ hs.length
  hi : hs.length ≤ 4
  nm : ∀ h ∈ hs, NmOk h
  up : rising (stW hs) = true
structure SlOk (hs : List Str) (s : Slot) : Prop where
  nm : NmOk s.1
  home : s.2.1 ∈ hs
  lo : 2 ≤ s.2.2.length
  hi : s.2.2.length ≤ 4
  wm : ∀ w ∈ s.2.2, NmOk w
  nd : s.2.2.Nodup
def PrOk (ss : List Slot) (q : Str × Str) : Prop := ∃ s ∈ ss, s.1 = q.1 ∧ q.2 ∈ s.2.2
structure PtOk (ss : List Slot) (p : Pat) : Prop where
  pr : ∀ q ∈ p, PrOk ss q
  up : rising (stW (p.map (·.1))) = true
  len : p.length ≤ 6
/-- names of slots and words -/
structure SsNm (ss : List Slot) : Prop where
  len : ss.length ≤ 6
  nm : ∀ s ∈ ss, NmOk s.1 ∧ NmOk s.2.1 ∧ s.2.2.length ≤ 4 ∧ ∀ w ∈ s.2.2, NmOk w
theorem SsNm.filter {ss : List Slot} (h : SsNm ss) (p : Slot → Bool) : SsNm (ss.filter p) :=
  ⟨Nat.le_trans (List.length_filter_le _ _) h.len, fun s hs => h.nm s (List.mem_filter.mp hs).1⟩
/-- what is asked of lists of names to be compared -/
theorem in_names {P : PW1} {mu : Mu} {ng : Bool} {ns : List Str} {h : Str} (hh : NmOk h) (hn : ∀ n ∈ ns, NmOk n) (k : P (.bl (ng != decide (h ∈ ns))) mu) : inW ng (.str h) (nmW ns) mu P := by
  refine ⟨plain_str h, ?_, dats (stW ns), ?_, ?_, ?_⟩
  · unfold SeqAt.shaped
    simp only [dat, PyData.depth]
    have := nm_ok hh
    simp [this]
  · show (if plsW (stW ns) = true then some (dats (stW ns)) else none) = _
    rw [if_pos (show plsW (stW ns) = true from plains_map _ plain_str ns)]
  · unfold stW
    rw [dats_map]
    exact lay_all _ fun n h' => nm_ok (hn n h')
  · rw [any_str]
    exact k
theorem eq_strs {P : PW1} {mu : Mu} {x y : Str} (hx : NmOk x) (hy : NmOk y) (k : P (.bl (decide (x = y))) mu) : eqW (.str x) (.str y) mu P := by
  have sh : ∀ {z : Str}, NmOk z → SeqAt.shaped (.str z) = true := fun h => by
    unfold SeqAt.shaped
    have := nm_ok h
    simp [this, PyData.depth]
  refine ⟨.str x, .str y, ?_, ?_, sh hx, sh hy, ?_⟩
  · simp [asD, plW, dat]
  · simp [asD, plW, dat]
  · rw [eqv_str]; exact k
end K1
set_option Elab.async false
set_option linter.all false
set_option maxRecDepth 100000
namespace K1
open PySem L2 Dv
def top (i : Nat) : Stmt := PySem.Challenge.pw_unlikekeys_k11_texts_of_runs_and_histori.main.body.getD i (.Pass ⟨0, 0, 0, 0⟩)
/-- what the names of built-ins hold -/
structure Bl (mg : Str → Option Value) : Prop where
  isinstance : mg "isinstance" = none
  tuple : mg "tuple" = none
  list : mg "list" = none
  str : mg "str" = none
  len : mg "len" = none
  all : mg "all" = none
  any : mg "any" = none
  zip : mg "zip" = none
  set : mg "set" = none
  range : mg "range" = none
  sorted : mg "sorted" = none
  int : mg "int" = none
  abs : mg "abs" = none
  min : mg "min" = none
  max : mg "max" = none
  enumerate : mg "enumerate" = none
  dict : mg "dict" = none
  repr : mg "repr" = none
  letters : ∃ t, mg "LETTERS" = some (.str "abcdefghijklmnopqrstuvwxyz" t)
section
variable {P : Program} {w : World} {K : PySem.W.Frag} {mg : Str → Option Value} {base : Heap}

abbrev s_is_tuple : Stmt := top 9
theorem sc_is_tuple : FnScope ["value", "least", "most"] ["value", "least", "most"] (defScope s_is_tuple) := ⟨rfl, rfl, rfl, by decide +kernel, rfl, by decide +kernel, by decide +kernel⟩
def S_is_tuple : SpW := fun ws mu P => ∃ us a b, ws = [.tup us, .int a, .int b] ∧ ∀ r mu', r = (decide (a ≤ (us.length : Int)) && decide ((us.length : Int) ≤ b)) → Ext mu mu' → P (.bl r) mu'
theorem d_is_tuple (D : Dfn K mg "is_tuple" s_is_tuple ["value", "least", "most"]) (B : Bl mg) : DefOk P w K mg base "is_tuple" ["value", "least", "most"] 1 S_is_tuple := by
  refine dfnOk D sc_is_tuple (fun ws mu P ⟨us, a, b, e, _⟩ => by rw [e]; rfl) (fun f cdv A outer s H E hr ws mu Pt ⟨us, a, b, e, h⟩ => ?_)
  subst e
  refine sss_cons (ss_ret ?_)
  refine se_and (se_isi (T := "tuple") ?_ B.isinstance B.tuple)
  refine se_var (i := 0) rfl ?_
  refine ⟨"tuple", true, rfl, by decide +kernel, ?_⟩
  refine se_one (se_chain op_le cmpI_w op_le cmpI_w ?_)
  refine se_var (i := 1) rfl ?_
  refine se_len ?_ B.len
  refine se_var (i := 0) rfl ?_
  refine bW_split (fun e1 => ?_) (fun e1 => ?_) <;> dsimp only at e1
  · refine se_var (i := 2) rfl ?_
    exact h _ _ (by simp [e1]) Ext.refl
  · exact h _ _ (by simp [e1]) Ext.refl
abbrev s_is_rising : Stmt := top 10
theorem sc_is_rising : FnScope ["values", "low", "high"] ["values"] (defScope s_is_rising) := ⟨rfl, rfl, rfl, by decide +kernel, rfl, by decide +kernel, by decide +kernel⟩
def S_is_rising : SpW := fun ws mu P => ∃ us v, ws = [v] ∧ (v = .tup us ∨ ∃ a, v = .m a ∧ mu a = some (.lst us)) ∧ okUs us ∧ ∀ r mu', r = rising us → Ext mu mu' → P (.bl r) mu'
theorem cut1 (us : List W) : cutW us (some 1) none = us.tail := by
  unfold cutW HT.sIx
  cases us with
  | nil => rfl
  | cons x r =>
    have : min (1 : Int).toNat (x :: r).length = 1 := by simp
    simp [this]
theorem d_is_rising (D : Dfn K mg "is_rising" s_is_rising ["values"]) (B : Bl mg) : DefOk P w K mg base "is_rising" ["values"] 1 S_is_rising := by
  refine dfnOk D sc_is_rising (fun ws mu P ⟨us, v, e, _⟩ => by rw [e]; rfl) (fun f cdv A outer s H E hr ws mu Pt ⟨us, v, e, hv, ok, h⟩ => ?_)
  subst e
  have hu : (A.deeper (PyProof.Rows.envOfC "is_rising" (defScope s_is_rising) s.heap.objs.size f cdv)).units + 65 < cLine := by have := hr.un; omega
  refine sss_cons (ss_ret ?_)
  refine se_blt (cr_all rfl) all_w B.all (sa_one ?_)
  refine se_lc (own := [("low", 1), ("high", 2)]) (.tp [(.nm 1), (.nm 2)]) rfl sc_is_rising.nd (blkOk_by (N := ["values", "low", "high"]) (sc := defScope s_is_rising) (by decide +kernel)) rfl (fun _ _ _ _ _ => (pg_tup rfl (pgs_cons (pg_name (i := 1) sc_is_rising.nd rfl (Or.inl rfl)) (pgs_cons (pg_name (i := 2) sc_is_rising.nd rfl (Or.inl rfl)) pgs_nil)))) (by intro _; rfl) ?_
  refine si_zip ?_ B.zip
  refine se_var (i := 0) rfl ?_
  refine se_slFrom ?_
  refine se_var (i := 0) rfl ?_
  refine se_int ?_
  rcases hv with rfl | ⟨a, rfl, ha⟩
  · dsimp only [isI, slW, zipW]
    rw [cut1]
    refine lc_pure (fun q => match q with | .tup [x, y] => .bl (ltD (x, y)) | _ => .non) (fun _ _ => trivial) ?_ ?_ InBlk.mono ?_
    · rw [List.length_map, List.length_zip]; have := ok.1; omega
    · intro w mu' hw he
      obtain ⟨⟨x, y⟩, hq, rfl⟩ := List.mem_map.mp hw
      refine ⟨_, rfl, fun s H C cl fp => ?_⟩
      refine se_cmp (op_ltD hu) lt_w (nomark _) ?_
      refine se_var (i := 1) rfl ?_
      refine se_var (i := 2) rfl ?_
      have hx := List.of_mem_zip hq
      obtain ⟨p1, n1, dp1, al⟩ := ok.2 x hx.1
      have hy : y ∈ us := List.mem_of_mem_tail hx.2
      exact ⟨p1, (ok.2 y hy).1, al y hy, n1, dp1, rfl, Ext.refl⟩
    · intro D mu' hD he he2
      refine ⟨(us.zip us.tail).map ltD, ?_, h _ _ ?_ he2⟩
      · rw [setM_same, List.map_map, List.map_map]
        rfl
      · unfold rising
        rw [List.all_map]
        rfl
  · dsimp only [isI, slW, zipW]
    refine ⟨us, ha, fun p np => ?_⟩
    rw [cut1]
    have e0 : Ext mu (setM mu p (.lst us.tail)) := Ext.refl.set np
    refine ⟨us, us.tail, e0 _ _ ha, setM_same, ?_⟩
    refine lc_pure (fun q => match q with | .tup [x, y] => .bl (ltD (x, y)) | _ => .non) (fun mu' e => ⟨e _ _ (e0 _ _ ha), e _ _ setM_same⟩) ?_ ?_ InBlk.mono ?_
    · rw [List.length_map, List.length_zip]; have := ok.1; omega
    · intro w mu' hw he
      obtain ⟨⟨x, y⟩, hq, rfl⟩ := List.mem_map.mp hw
      refine ⟨_, rfl, fun s H C cl fp => ?_⟩
      refine se_cmp (op_ltD hu) lt_w (nomark _) ?_
      refine se_var (i := 1) rfl ?_
      refine se_var (i := 2) rfl ?_
      have hx := List.of_mem_zip hq
      obtain ⟨p1, n1, dp1, al⟩ := ok.2 x hx.1
      have hy : y ∈ us := List.mem_of_mem_tail hx.2
      exact ⟨p1, (ok.2 y hy).1, al y hy, n1, dp1, rfl, Ext.refl⟩
    · intro D mu' hD he he2
      refine ⟨(us.zip us.tail).map ltD, ?_, h _ _ ?_ (e0.trans he2)⟩
      · rw [setM_same, List.map_map, List.map_map]
        rfl
      · unfold rising
        rw [List.all_map]
        rfl
abbrev s_is_name : Stmt := top 8
theorem sc_is_name : FnScope ["value", "letter"] ["value"] (defScope s_is_name) := ⟨rfl, rfl, rfl, by decide +kernel, rfl, by decide +kernel, by decide +kernel⟩
/-- of what is as it should be: True -/
def S_t (pre : List W → Mu → Prop) : SpW := fun ws mu P => pre ws mu ∧ ∀ mu', Ext mu mu' → P (.bl true) mu'
def S_is_name : SpW := S_t fun ws mu => ∃ z, ws = [.str z] ∧ NmOk z
theorem letters_mem {c : Nat} (h : 97 ≤ c ∧ c ≤ 122) : c ∈ ("abcdefghijklmnopqrstuvwxyz" : Str).cps.toList := by
  have hd : ∀ c, c < 123 → 97 ≤ c → c ∈ ("abcdefghijklmnopqrstuvwxyz" : Str).cps.toList := by decide +kernel
  exact hd c (by omega) h.1
theorem d_is_name (D : Dfn K mg "is_name" s_is_name ["value"]) (B : Bl mg) : DefOk P w K mg base "is_name" ["value"] 1 S_is_name := by
  refine dfnOk D sc_is_name (fun ws mu P ⟨⟨z, e, _⟩, _⟩ => by rw [e]; rfl) (fun f cdv A outer s H E hr ws mu Pt ⟨⟨z, e, hz⟩, h⟩ => ?_)
  subst e
  refine sss_cons (ss_ret ?_)
  refine se_and (se_isi (T := "str") ?_ B.isinstance B.str)
  refine se_var (i := 0) rfl ?_
  refine ⟨"str", true, rfl, by decide +kernel, ?_⟩
  refine se_and (se_chain op_le cmpI_w op_le cmpI_w ?_)
  refine se_int ?_
  refine se_len ?_ B.len
  refine se_var (i := 0) rfl ?_
  refine ⟨nm_len hz, ?_⟩
  refine bW_t (decide_eq_true (by have := hz.1; omega)) ?_
  refine se_int ?_
  refine bW_t (decide_eq_true (by have := hz.2.1; omega)) ?_
  refine se_one (se_all ?_ B.all)
  refine se_lc (own := [("letter", 1)]) (.nm 1) rfl sc_is_name.nd (blkOk_by (N := ["value", "letter"]) (sc := defScope s_is_name) (by decide +kernel)) rfl (fun _ _ _ _ _ => (pg_name (i := 1) sc_is_name.nd rfl (Or.inl rfl))) (by intro _; rfl) ?_
  refine si_str ?_
  refine se_var (i := 0) rfl ?_
  refine lc_all_t (fun _ _ => trivial) (by rw [List.length_map]; exact nm_len hz) InBlk.mono ?_ fun mu' e => h _ e
  intro w mu' hw he
  obtain ⟨c, hc, rfl⟩ := List.mem_map.mp hw
  refine ⟨_, rfl, fun s H C cl fp => ?_⟩
  refine se_cmp op_in_sign inC_w (by rfl) ?_
  refine se_var (i := 1) rfl ?_
  obtain ⟨t, ht⟩ := B.letters
  refine se_glob (w := .str "abcdefghijklmnopqrstuvwxyz") (v := .str "abcdefghijklmnopqrstuvwxyz") ht ⟨t, rfl⟩ (fun _ _ => rfl) ?_
  refine ⟨c, _, rfl, rfl, ?_, Ext.refl⟩
  rw [decide_eq_true (letters_mem (hz.2.2 c hc))]
theorem atI_nat' {α : Type} {xs : List α} {i : Nat} {x : α} (h : xs[i]? = some x) : atI xs (i : Int) = some x := by
  have hl : i < xs.length := (List.getElem?_eq_some_iff.mp h).1
  unfold atI ixN
  rw [if_pos (by omega), if_pos (by omega)]
  exact h
end
def ExtBut (y : Addr) (mu mu' : Mu) : Prop := ∀ a c, a ≠ y → mu a = some c → mu' a = some c
theorem ExtBut.refl {y : Addr} {mu : Mu} : ExtBut y mu mu := fun _ _ _ h => h
theorem ExtBut.ext {y : Addr} {mu mu' mu2 : Mu} (e : ExtBut y mu mu') (e2 : Ext mu' mu2) : ExtBut y mu mu2 := fun a c h ha => e2 a c (e a c h ha)
theorem ExtBut.set {y : Addr} {mu mu' : Mu} {c : C} (e : ExtBut y mu mu') : ExtBut y mu (setM mu' y c) := fun a d h ha => by rw [setM_ne h]; exact e a d h ha
theorem ExtBut.all {y : Addr} {mu mu' : Mu} (e : ExtBut y mu mu') (h : mu y = none) : Ext mu mu' := fun a d ha => e a d (fun z => by rw [z, h] at ha; cases ha) ha
theorem ExtBut.own {y p : Addr} {mu mu' : Mu} {c : C} (e : ExtBut y mu mu') (h : mu p = none) : ExtBut y mu (setM mu' p c) := fun a d hn ha => by
  rw [setM_ne fun z => by rw [z, h] at ha; cases ha]
  exact e a d hn ha
end K1
set_option Elab.async false
set_option linter.all false
set_option maxRecDepth 100000
/-! Dict comprehensions; sorted of data; stars; comprehensions of two fors. -/
namespace Dv
open PySem L2
section
variable {X : Cx} {e a b c : Expr} {es : List Expr} {st : Stmt} {sts : List Stmt} {G : Gs} {mu mu' : Mu} {pos p apos cpos : Pos} {P : PW1}
abbrev dcPost (B : (Cx → Prop) → Prop) (T : Tg) (kx vx : Expr) (vs : List Nat) (G : Gs) (P : PW1) : List W → (Mu → Prop) → Mu → Prop := fun ws Gm mu1 => ∀ D, mu1 D = none → ∃ I : Nat → List (Key × W) → Mu → Prop, I 0 [] mu1 ∧ (∀ i acc mu', i ≤ ws.length → I i acc mu' → Gm mu') ∧
  (∀ i w acc mu', ws[i]? = some w → I i acc mu' → acc.length < sizeLine ∧ (acc.map (·.1)).Nodup ∧ ∃ G2, T.bind w (wipeG G vs) = some G2 ∧ B fun Y => SE Y kx G2 mu' fun kw mu3 => ∃ k, keyOf kw = some k ∧ B fun Z => SE Z vx G2 mu3 fun r mu4 => I (i + 1) (putW acc k r) mu4) ∧
  ∀ acc mu', I ws.length acc mu' → P (.m D) (setM mu' D (.dic acc))
theorem dc_rd {scope : Scope} {own : List (Str × Nat)} {tg iter kx vx : Expr} (T : Tg) {P : PW1} {σ : St} {H : Hp} {Q : VK} (ha : T.all (fun i => decide (i ∈ own.map (·.2))) = true) (d : DenG X.K H G σ) (m : HM X.K H mu) (k : Kont X.K mu H P Q)
    (h : SI X tg iter G mu (dcPost (InBlk X scope) T kx vx (own.map (·.2)) G P)) :
    tDc (tI X tg iter) (gT X.K T) tYes (fun σ2 H2 Q2 => ∀ (s : Shared) (H : Hp) (C : Addr) (cl : List (Str × Addr)) (fp : List Addr), tE (X.blk s H scope (compEnvC scope cl C X.env) fp) kx σ2 H2 Q2)
      (fun σ2 H2 Q2 => ∀ (s : Shared) (H : Hp) (C : Addr) (cl : List (Str × Addr)) (fp : List Addr), tE (X.blk s H scope (compEnvC scope cl C X.env) fp) vx σ2 H2 Q2) (own.map (·.2)) σ H Q := by
  refine h σ H _ d m fun J ws Gm mu1 H1 hI c1 m1 ⟨Gh, Y, wk, hg, hy⟩ D hD => ?_
  obtain ⟨I, i0, ig, it, ie⟩ := hI D (m1.dom hD)
  obtain ⟨c0, m0⟩ := laid (o := .dK []) m1 hD
  refine ⟨fun i n H' => n = ws.length - i ∧ i ≤ ws.length ∧ ∃ acc mu' xs, I i acc mu' ∧ H' D = some (.dK xs) ∧ DKV X.K H' acc xs ∧ mu' D = none ∧ HM X.K H' mu' ∧ Chg mu1 H1 mu' H',
    ⟨ws.length, by simp, Nat.zero_le _, [], mu1, [], i0, upd_same, ⟨rfl, rfl⟩, m1.dom hD, m0, c0⟩, ?_⟩
  rintro i n H' ⟨rfl, hi, acc, mu', xs, q, hx, dx, nD, m2, c2⟩
  have gh := hg mu' H' c2 m2 (ig i acc mu' hi q)
  by_cases hlt : i < ws.length
  · refine .inr ⟨wk.goes i H' hlt gh, fun H' => ∃ acc mu' xs, I (i + 1) acc mu' ∧ H' D = some (.dK xs) ∧ DKV X.K H' acc xs ∧ mu' D = none ∧ HM X.K H' mu' ∧ Chg mu1 H1 mu' H', fun H'' hN => ⟨ws.length - (i + 1), by omega, rfl, hlt, hN⟩, fun x H'' y => ?_⟩
    obtain ⟨w, hw, c3, m3, d3⟩ := hy i H' x H'' mu' hlt c2 m2 (ig i acc mu' hi q) (wk.yields i H' x H'' hlt gh y)
    obtain ⟨hl, hn, G2, hb, he⟩ := it i w acc mu' hw q
    have dw : DenG X.K H'' (wipeG G (own.map (·.2))) (wipe σ (own.map (·.2))) := c3.denG m2 (c2.denG m1 (c1.denG m (wipeG_den d _)))
    refine gT_run T hb ha dw d3 fun σ2 d2 e2 => ⟨e2.trans wipe_wipe, ?_⟩
    simp only [tYes, if_true]
    intro s Hs C cl fp
    refine he s Hs C cl fp σ2 H'' _ d2 m3 fun kv kw mu4 H4 h4 c4 d4 m4 s' Hs' C' cl' fp' => ?_
    obtain ⟨kk, hk, hv⟩ := h4
    refine hv s' Hs' C' cl' fp' σ2 H4 _ (c4.denG m3 d2) m4 fun v r mu5 H5 h5 c5 d5 m5 => ?_
    have hx5 := c5.keep _ _ (c4.keep _ _ (c3.keep _ _ hx nD) nD) (c4.new _ _ (c3.keep _ _ hx nD) nD)
    have nD5 := c5.new _ _ (c4.keep _ _ (c3.keep _ _ hx nD) nD) (c4.new _ _ (c3.keep _ _ hx nD) nD)
    have dx5 : DKV X.K H5 acc xs := ⟨dx.1, c5.denAll m4 (c4.denAll m3 (c3.denAll m2 dx.2))⟩
    have sq : ∀ a ys, SqT X.K H5 a ys → SqT X.K (upd H5 D (.dK (putK xs kk v))) a ys := fun a ys s => by
      rcases s with (s | ⟨o, s⟩) | s
      · exact .inl (.inl (by rw [upd_ne (ne_of s hx5 (by intro z; cases z))]; exact s))
      · exact .inl (.inr ⟨o, by rw [upd_ne (ne_of s hx5 (by intro z; cases z))]; exact s⟩)
      · exact .inr s
    have cc := ((c2.trans c3).trans c4).trans c5
    refine ⟨xs, kk, keyOf_den hk d4, hx5, ?_, putW acc kk r, mu5, putK xs kk v, h5, upd_same, ?_, nD5, fun a cc ha => CellOk.mono sq (m5 a cc ha) (upd_ne fun z => by subst z; rw [nD5] at ha; cases ha), ⟨fun b o e n => by rw [upd_ne (ne_of_none e hD)]; exact cc.keep b o e n, cc.old, cc.new⟩⟩
    · have := congrArg List.length dx.1
      simp only [List.length_map] at this
      omega
    · have := dx5.put hn d5 (k := kk)
      exact ⟨this.1, DenAll.mono sq _ this.2⟩
  · have ei : i = ws.length := by omega
    subst ei
    refine .inl ⟨wk.stops H' gh, k (.ref D) (.m D) (setM mu' D (.dic acc)) H' (ie acc mu' q) (c1.trans ⟨c2.keep, fun b cc e => ?_, fun b o e n => ?_⟩) rfl fun a cc ha => ?_⟩
    · by_cases z : b = D
      · subst z; exact ⟨_, setM_same⟩
      · rw [setM_ne z]; exact c2.old b cc e
    · rw [setM_ne (ne_of_none e hD)]
      exact c2.new b o e n
    · by_cases z : a = D
      · subst z
        rw [setM_same] at ha
        cases ha
        exact ⟨xs, hx, dx.1, dx.2⟩
      · rw [setM_ne z] at ha
        exact m2 a cc ha
theorem se_dc {scope : Scope} {own : List (Str × Nat)} {tg iter kx vx : Expr} (T : Tg) (hc : X.calm = true) (hN : X.N.Nodup) (ok : BlkOk X.N X.env.scope scope own) (ha : T.all (fun i => decide (i ∈ own.map (·.2))) = true)
    (hg : ∀ (s : Shared) (H : Hp) (C : Addr) (cl : List (Str × Addr)) (fp : List Addr), PG (X.blk s H scope (compEnvC scope cl C X.env) fp) tg (gT X.K T)) (hs : ∀ x, foldedSetIterable iter X.env x = pure x)
    (h : SI X tg iter G mu (dcPost (InBlk X scope) T kx vx (own.map (·.2)) G P)) : SE X (.DictComp kx vx [⟨tg, iter, [], 0⟩] scope pos) G mu P :=
  SE.mk (pe_dc hc hN piI ok hg (fun _ _ _ _ _ => pts_nil) (fun s H C cl fp => ⟨fun pins s' σ H' Q I h => h s H C cl fp pins s' I⟩) (fun s H C cl fp => ⟨fun pins s' σ H' Q I h => h s H C cl fp pins s' I⟩) hs) fun σ H Q d m k => dc_rd T ha d m k h
/-! two fors, the elements leave the cells as they are -/
def Ext' (mu mu' : Mu) : Prop := ∀ a c, mu a = some c → mu' a = some c
theorem lc2_rd {scope : Scope} {own : List (Str × Nat)} {vs1 : List Nat} {tg iter tg1 iter1 elt : Expr} (T T1 : Tg) {P : PW1} {σ : St} {H : Hp} {Q : VK} (ha : T.all (fun i => decide (i ∈ own.map (·.2))) = true) (ha1 : T1.all (fun i => decide (i ∈ vs1)) = true) (d : DenG X.K H G σ) (m : HM X.K H mu) (k : Kont X.K mu H P Q)
    (h : SI X tg iter G mu fun ws Gm mu1 => (∀ mu', Ext mu1 mu' → Gm mu') ∧ ∃ (us : W → List W) (g : W → W → W), (ws.flatMap fun w => (us w).map (g w)).length ≤ sizeLine ∧
      (∀ w ∈ ws, ∃ G2, T.bind w (wipeG G (own.map (·.2))) = some G2 ∧ ∀ mu', Ext mu1 mu' → InBlk X scope fun Y => SI Y tg1 iter1 G2 mu' fun us' Gm' mu2 => us' = us w ∧ mu2 = mu' ∧ (∀ mu'', Ext mu1 mu'' → Gm' mu'') ∧ ∀ u ∈ us w, ∃ G3, T1.bind u (wipeG G2 vs1) = some G3 ∧ ∀ mu'', Ext mu1 mu'' → InBlk X scope fun Z => SE Z elt G3 mu'' fun r mu4 => r = g w u ∧ mu4 = mu'') ∧
      ∀ D, mu1 D = none → P (.m D) (setM mu1 D (.lst (ws.flatMap fun w => (us w).map (g w))))) :
    tLc2 (tI X tg iter) (gT X.K T) tYes (fun σ2 H2 R2 => ∀ (s : Shared) (H : Hp) (C : Addr) (cl : List (Str × Addr)) (fp : List Addr), tI (X.blk s H scope (compEnvC scope cl C X.env) fp) tg1 iter1 σ2 H2 R2) (gT X.K T1) tYes
      (fun σ2 H2 Q2 => ∀ (s : Shared) (H : Hp) (C : Addr) (cl : List (Str × Addr)) (fp : List Addr), tE (X.blk s H scope (compEnvC scope cl C X.env) fp) elt σ2 H2 Q2) (own.map (·.2)) vs1 σ H Q := by
  refine h σ H _ d m fun J ws Gm mu1 H1 ⟨hGm, us, g, hl, it, ie⟩ c1 m1 ⟨Gh, Y, wk, hg, hy⟩ D hD => ?_
  have nD := m1.dom hD
  have ex : ∀ c, Ext mu1 (setM mu1 D c) := fun c => Ext.refl.set nD
  obtain ⟨c0, m0⟩ := laidC (o := .lst []) (c := .lst []) m1 hD (newLst (ws := []) rfl)
  refine ⟨fun i n H' => n = ws.length - i ∧ i ≤ ws.length ∧ HM X.K H' (setM mu1 D (.lst ((ws.take i).flatMap fun w => (us w).map (g w)))) ∧ Chg mu1 H1 (setM mu1 D (.lst ((ws.take i).flatMap fun w => (us w).map (g w)))) H', ⟨ws.length, by simp, Nat.zero_le _, m0, c0⟩, ?_⟩
  rintro i n H' ⟨rfl, hi, m2, c2⟩
  have gh := hg _ H' c2 m2 (hGm _ (ex _))
  by_cases hlt : i < ws.length
  · refine .inr ⟨wk.goes i H' hlt gh, fun H' => HM X.K H' (setM mu1 D (.lst ((ws.take (i + 1)).flatMap fun w => (us w).map (g w)))) ∧ Chg mu1 H1 (setM mu1 D (.lst ((ws.take (i + 1)).flatMap fun w => (us w).map (g w)))) H', fun H'' hN => ⟨ws.length - (i + 1), by omega, rfl, hlt, hN⟩, fun x H'' y => ?_⟩
    obtain ⟨w, hw, c3, m3, d3⟩ := hy i H' x H'' _ hlt c2 m2 (hGm _ (ex _)) (wk.yields i H' x H'' hlt gh y)
    obtain ⟨G2, hb, hin⟩ := it w (List.mem_of_getElem? hw)
    have dw : DenG X.K H'' (wipeG G (own.map (·.2))) (wipe σ (own.map (·.2))) := c3.denG m2 (c2.denG m1 (c1.denG m (wipeG_den d _)))
    have tk : (ws.take (i + 1)).flatMap (fun w => (us w).map (g w)) = ((ws.take i).flatMap fun w => (us w).map (g w)) ++ (us w).map (g w) := by
      rw [List.take_add_one, hw, List.flatMap_append]
      simp
    rw [tk]
    have lenle : ∀ j, j < (us w).length → (((ws.take i).flatMap fun w => (us w).map (g w)) ++ ((us w).take j).map (g w)).length < sizeLine := fun j hj => by
      have q1 : ws = ws.take i ++ w :: ws.drop (i + 1) := by
        have := List.take_append_drop i ws
        rw [List.drop_eq_getElem_cons hlt] at this
        have hw' : ws[i] = w := by
          have := List.getElem?_eq_getElem hlt
          rw [hw] at this
          exact (Option.some.inj this).symm
        rw [hw'] at this
        exact this.symm
      have q2 : (ws.flatMap fun w => (us w).map (g w)).length = (((ws.take i).flatMap fun w => (us w).map (g w)) ++ ((us w).map (g w) ++ (ws.drop (i + 1)).flatMap fun w => (us w).map (g w))).length := by
        conv => lhs; rw [q1]
        rw [List.flatMap_append, List.flatMap_cons]
      rw [List.length_append, List.length_append, List.length_map] at q2
      rw [List.length_append, List.length_map, List.length_take]
      omega
    refine gT_run T hb ha dw d3 fun σ2 d2 e2 => ⟨e2.trans wipe_wipe, ?_⟩
    simp only [tYes, if_true]
    intro s Hs C cl fp
    refine hin _ (ex _) s Hs C cl fp σ2 H'' _ d2 m3 fun J1 us' Gm' mu2 H4 ⟨e3, e4, hGm', tn⟩ c4 m4 ⟨Gh1, Y1, wk1, hg1, hy1⟩ => ?_
    subst e3 e4
    have c24 := (c2.trans c3).trans c4
    generalize hacc : ((ws.take i).flatMap fun w => (us w).map (g w)) = acc at *
    refine ⟨fun j n H' => n = (us w).length - j ∧ j ≤ (us w).length ∧ Chg (setM mu1 D (.lst acc)) H4 (setM mu1 D (.lst (acc ++ ((us w).take j).map (g w)))) H' ∧ HM X.K H' (setM mu1 D (.lst (acc ++ ((us w).take j).map (g w)))), ⟨(us w).length, by simp, Nat.zero_le _, ?_, ?_⟩, ?_⟩
    · simp only [List.take_zero, List.map_nil, List.append_nil]
      exact Chg.refl
    · simp only [List.take_zero, List.map_nil, List.append_nil]
      exact m4
    rintro j n H5 ⟨rfl, hj, c5, m5⟩
    have gh1 := hg1 _ H5 c5 m5 (hGm' _ (ex _))
    by_cases hjl : j < (us w).length
    · refine .inr ⟨wk1.goes j H5 hjl gh1, fun H' => Chg (setM mu1 D (.lst acc)) H4 (setM mu1 D (.lst (acc ++ ((us w).take (j + 1)).map (g w)))) H' ∧ HM X.K H' (setM mu1 D (.lst (acc ++ ((us w).take (j + 1)).map (g w)))), fun H'' hN => ⟨(us w).length - (j + 1), by omega, rfl, hjl, hN⟩, fun x1 H6 y1 => ?_⟩
      obtain ⟨u, hu, c6, m6, d6⟩ := hy1 j H5 x1 H6 _ hjl c5 m5 (hGm' _ (ex _)) (wk1.yields j H5 x1 H6 hjl gh1 y1)
      obtain ⟨G3, hb3, he⟩ := tn u (List.mem_of_getElem? hu)
      have dG2 : DenG X.K H6 (wipeG G2 vs1) (wipe σ2 vs1) := c6.denG m5 (c5.denG m4 (c4.denG m3 (wipeG_den d2 vs1)))
      refine gT_run T1 hb3 ha1 dG2 d6 fun σ3 d7 e7 => ⟨e7.trans wipe_wipe, ?_⟩
      simp only [tYes, if_true]
      intro s Hs C cl fp
      refine he _ (ex _) s Hs C cl fp σ3 H6 _ d7 m6 fun v r mu4 H7 ⟨e8, e9⟩ c8 d8 m8 => ?_
      subst e8 e9
      have tku : acc ++ ((us w).take (j + 1)).map (g w) = (acc ++ ((us w).take j).map (g w)) ++ [g w u] := by
        rw [List.take_add_one, hu, List.map_append, List.append_assoc]
        rfl
      obtain ⟨ys, hy7, dy7⟩ := m8 D _ setM_same
      obtain ⟨c9, m9⟩ := wrote (o := .lst (ys ++ [v])) (c := .lst ((acc ++ ((us w).take j).map (g w)) ++ [g w u])) m8 setM_same (newLst (DenAll.append dy7 ⟨v, [], rfl, d8, rfl⟩))
      rw [setM_set, ← tku] at c9 m9
      exact ⟨ys, hy7, by rw [← dy7.length]; exact lenle j hjl, ((c5.trans c6).trans c8).trans c9, m9⟩
    · have ej : j = (us w).length := by omega
      subst ej
      rw [List.take_length] at c5 m5
      exact .inl ⟨wk1.stops H5 gh1, m5, c24.trans c5⟩
  · have ei : i = ws.length := by omega
    subst ei
    rw [List.take_length] at m2 c2
    exact .inl ⟨wk.stops H' gh, k (.ref D) (.m D) _ H' (ie D nD) (c1.trans c2) rfl m2⟩
theorem ss_setlc2 {E : WE} {i : Nat} {y : Str} {py spos : Pos} {scope : Scope} {own : List (Str × Nat)} {vs1 : List Nat} {tg iter tg1 iter1 elt : Expr} (T T1 : Tg) (hc : X.calm = true) (hN : X.N.Nodup) (hy : X.N[i]? = some y) (hyl : X.env.scope.names.lookup y = some .local)
    (hsw : swapsWith (.ListComp elt [⟨tg, iter, [], 0⟩, ⟨tg1, iter1, [], 0⟩] scope pos) (some (.Name y py)) spos.line X.env = pure true) (ok : BlkOk X.N X.env.scope scope own) (hv : ∀ i ∈ vs1, i ∈ own.map (·.2)) (ha : T.all (fun i => decide (i ∈ own.map (·.2))) = true) (ha1 : T1.all (fun i => decide (i ∈ vs1)) = true)
    (hg : ∀ (s : Shared) (H : Hp) (C : Addr) (cl : List (Str × Addr)) (fp : List Addr), PG (X.blk s H scope (compEnvC scope cl C X.env) fp) tg (gT X.K T)) (hg1 : ∀ (s : Shared) (H : Hp) (C : Addr) (cl : List (Str × Addr)) (fp : List Addr), PG (X.blk s H scope (compEnvC scope cl C X.env) fp) tg1 (gT X.K T1)) (hs : ∀ x, foldedSetIterable iter X.env x = pure x) (hs1 : ∀ env x, foldedSetIterable iter1 env x = pure x)
    (h : SI X tg iter G mu fun ws Gm mu1 => (∀ mu', Ext mu1 mu' → Gm mu') ∧ ∃ (us : W → List W) (g : W → W → W), (ws.flatMap fun w => (us w).map (g w)).length ≤ sizeLine ∧
      (∀ w ∈ ws, ∃ G2, T.bind w (wipeG G (own.map (·.2))) = some G2 ∧ ∀ mu', Ext mu1 mu' → InBlk X scope fun Y => SI Y tg1 iter1 G2 mu' fun us' Gm' mu2 => us' = us w ∧ mu2 = mu' ∧ (∀ mu'', Ext mu1 mu'' → Gm' mu'') ∧ ∀ u ∈ us w, ∃ G3, T1.bind u (wipeG G2 vs1) = some G3 ∧ ∀ mu'', Ext mu1 mu'' → InBlk X scope fun Z => SE Z elt G3 mu'' fun r mu4 => r = g w u ∧ mu4 = mu'') ∧
      ∀ D, mu1 D = none → E.nx (G.set i (some (.m D))) (setM mu1 D (.lst (ws.flatMap fun w => (us w).map (g w))))) : SS X (.Assign [.Name y py] (.ListComp elt [⟨tg, iter, [], 0⟩, ⟨tg1, iter1, [], 0⟩] scope pos) spos) G mu E :=
  SS.mk (ps_setLc2 hc hN hy hyl hsw piI ok hv hg (fun _ _ _ _ _ => pts_nil) (fun s H C cl fp => ⟨fun pins s' σ H' Q I h => h s H C cl fp pins s' I⟩) hg1 (fun _ _ _ _ _ => pts_nil) (fun s H C cl fp => ⟨fun pins s' σ H' Q I h => h s H C cl fp pins s' I⟩) hs hs1) fun σ H D d m k =>
    lc2_rd (P := fun w mu1 => E.nx (G.set i (some w)) mu1) T T1 ha ha1 d m (fun v w mu1 H1 h1 c1 d1 m1 => k.nx _ _ _ _ h1 c1 (DenG.set (c1.denG m d) d1) m1) h
/-! a star of a tuple -/
theorem sa_star {P : List W → Mu → Prop} {p : Pos} (h : SE X e G mu fun w mu1 => match w with | .tup us => SA X es G mu1 fun ws mu2 => P (us ++ ws) mu2 | _ => False) (hs : starEach (.Starred e p :: es) X.env = (true, eval e X.env) :: starEach es X.env := by rfl) : SA X (.Starred e p :: es) G mu P :=
  SA.mk (StX.pa_star peE paA hs) fun σ H Q d m k => h σ H _ d m fun v w mu1 H1 h1 c1 d1 m1 => by
    cases w with
    | tup us =>
      obtain ⟨a, xs, rfl, s, dx⟩ := d1
      exact ⟨a, xs, rfl, .inl s, h1 σ H1 _ (c1.denG m d) m1 fun vs ws mu2 H2 h2 c2 d2 m2 => k _ _ _ _ h2 (c1.trans c2) (DenAll.append (c2.denAll m1 dx) d2) m2⟩
    | _ => exact False.elim h1
/-! sorted of data -/
theorem dats_mapD : ∀ us : List W, dats us = us.map dat
  | [] => by simp [dats]
  | u :: us => by simp [dats, dats_mapD us]
theorem each_zip {K : PySem.W.Frag} {H : Hp} : ∀ {us : List W} {xs : List V} {its : List Value}, DenAll K H us xs → Vals xs its → PySem.W.EachIs (fun u (b : V × W) => RelV b.1 u) its (xs.zip us)
  | [], xs, its, d, r => by
    have d : xs = [] := d
    subst d
    cases r
    exact .nil
  | u :: us, _, its, ⟨v, xs, e, d1, d2⟩, r => by
    subst e
    cases r with
    | cons r1 r2 => exact .cons r1 (each_zip d2 r2)
theorem each_reads {X : Cx} {pins : List (Addr × Obj)} {σ : St} {H : Hp} {s : Shared} (I : Inv X pins σ H s) : ∀ {us : List W} {xs : List V} {its : List Value}, plsW us = true → DenAll X.K H us xs → Vals xs its → PySem.W.EachIs (fun u (b : V × W) => ∃ as, Reads s.heap u (dat b.2) as) its (xs.zip us)
  | [], xs, its, _, d, r => by
    have d : xs = [] := d
    subst d
    cases r
    exact .nil
  | u :: us, _, its, p, ⟨v, xs, e, d1, d2⟩, r => by
    subst e
    unfold plsW at p
    rw [Bool.and_eq_true] at p
    cases r with
    | cons r1 r2 => exact .cons (Dp.reads I (dat u) v _ (Den.dp u p.1 d1) r1) (each_reads I p.2 d2 r2)
theorem each_vals : ∀ {bs : List (V × W)} {out : List Value}, PySem.W.EachIs (fun u (b : V × W) => RelV b.1 u) out bs → Vals (bs.map (·.1)) out
  | _, _, .nil => .nil
  | _, _, .cons r t => .cons r (each_vals t)
theorem zip_snd {K : PySem.W.Frag} {H : Hp} {us : List W} {xs : List V} (d : DenAll K H us xs) : (xs.zip us).map (·.2) = us := by
  have := d.length
  rw [List.map_snd_zip]
  omega
theorem zip_den {K : PySem.W.Frag} {H : Hp} : ∀ {us : List W} {xs : List V}, DenAll K H us xs → ∀ b ∈ xs.zip us, Den K H b.2 b.1
  | [], xs, d, b, hb => by simp at hb
  | u :: us, _, ⟨v, xs, e, d1, d2⟩, b, hb => by
    subst e
    rcases List.mem_cons.mp hb with rfl | hb
    · exact d1
    · exact zip_den d2 b hb
theorem denAll_of {K : PySem.W.Frag} {H : Hp} : ∀ {bs : List (V × W)}, (∀ b ∈ bs, Den K H b.2 b.1) → DenAll K H (bs.map (·.2)) (bs.map (·.1))
  | [], _ => rfl
  | b :: bs, h => ⟨b.1, _, rfl, h b (by simp), denAll_of fun c hc => h c (by simp [hc])⟩
theorem mem_dats {us : List W} {d : PyData} : d ∈ dats us ↔ ∃ u ∈ us, d = dat u := by
  induction us with
  | nil => simp [dats]
  | cons u us ih => simp [dats, ih]
def leW (a b : W) : Bool := PySem.W.dataLe false (fun w : W => dat w) a b
def rSortW (K : PySem.W.Frag) : List V → Hp → VK → Prop := fun vs H Q => ∃ (a : Addr) (xs : List V) (us : List W), vs = [.ref a] ∧ SqL K H a xs ∧ DenAll K H us xs ∧ plsW us = true ∧ PySem.W.AllAlike (dats us) ∧ PySem.W.Sortable (dats us) ∧ us.length ≤ sizeLine ∧ (∀ u ∈ us, (dat u).depth ≤ 64) ∧
  ∀ p ys, H p = none → DenAll K H (us.mergeSort leW) ys → Q (.ref p) (upd H p (.lst ys))
theorem cr_sortedW {j : Nat} (hr : Room j X.A) : CallR X (.builtin "sorted") (rSortW X.K) := by
  intro pins s σ H vs us' Q I r h
  obtain ⟨a, xs, us, rfl, hs, dx, pl, al, so, hl, dp, q⟩ := h
  obtain ⟨its, rv, pL, hz⟩ := I.list hs
  cases r with
  | cons ra rn =>
    cases rn
    cases ra
    have em : (xs.zip us).map (fun b => dat b.2) = dats us := by
      have := congrArg (List.map dat) (zip_snd dx)
      rw [List.map_map] at this
      rw [show dats us = us.map dat from by simpa using dats_mapD us]
      exact this
    have hlen : (xs.zip us).length = us.length := by rw [List.length_zip, ← dx.length]; omega
    refine PySem.W.sorted_data (β := V × W) (bs := xs.zip us) (enc := fun b => dat b.2) pL.isList (each_zip dx rv) (each_reads I pl dx rv) (by rw [em]; exact al) (by rw [em]; exact so) (by rw [hlen]; exact hl) (fun b hb => ?_) fun out ho he => ?_
    · have := dp b.2 (List.of_mem_zip hb).2
      have := hr.un
      omega
    · obtain ⟨c, hc⟩ := PyProof.Rows.sortedAll_at s.heap its out.toArray
      have hp : s.heap.objs.size ≤ s.heap.objs.size + 1 := Nat.le_succ _
      have hn : H (s.heap.objs.size + 1) = none := I.hok.fresh hp
      have rel := each_vals he
      have dn : DenAll X.K H (us.mergeSort leW) (((xs.zip us).mergeSort (PySem.W.dataLe false fun b => dat b.2)).map (·.1)) := by
        have h1 := denAll_of (K := X.K) (H := H) (bs := (xs.zip us).mergeSort (PySem.W.dataLe false fun b => dat b.2)) fun b hb => zip_den dx b ((List.mergeSort_perm _ _).mem_iff.mp hb)
        have h2 : ((xs.zip us).mergeSort (PySem.W.dataLe false fun b => dat b.2)).map (·.2) = us.mergeSort leW := by
          exact (PySem.W.sort_maps (r := PySem.W.dataLe false fun b : V × W => dat b.2) (s := leW) (l := xs.zip us) (fun b : V × W => b.2) fun a _ b _ => rfl).trans (by rw [zip_snd dx])
        rw [h2] at h1
        exact h1
      refine ⟨.ref (s.heap.objs.size + 1), upd H (s.heap.objs.size + 1) (.lst _), I.laid (t' := s.toks) (fun _ _ => PyProof.Rows.sortedAll_old) hp ⟨?_, out, c, rel, hc⟩, rfl, q _ _ hn dn⟩
      rw [List.length_map, List.length_mergeSort, hlen]
      exact hl
abbrev sortedW (ws : List W) (mu : Mu) (P : PW1) : Prop := match ws with | [.m a] => ∃ us, mu a = some (.lst us) ∧ plsW us = true ∧ PySem.W.AllAlike (dats us) ∧ PySem.W.Sortable (dats us) ∧ us.length ≤ sizeLine ∧ (∀ u ∈ us, (dat u).depth ≤ 64) ∧ ∀ p, mu p = none → P (.m p) (setM mu p (.lst (us.mergeSort leW))) | _ => False
theorem sorted_w : CallW X (rSortW X.K) sortedW := fun ws vs mu H P Q d m h k => by
  unfold sortedW at h
  split at h
  · rename_i a
    obtain ⟨us, h1, pl, al, so, hl, dp, q⟩ := h
    obtain ⟨v, rfl, dv⟩ := d.one
    have dv : v = .ref a := dv
    subst dv
    obtain ⟨xs, hx, dx⟩ := m a _ h1
    refine ⟨a, xs, us, rfl, SqL.of hx, dx, pl, al, so, hl, dp, fun p ys hp dy => ?_⟩
    obtain ⟨c2, m2⟩ := laidC (o := .lst ys) (c := .lst (us.mergeSort leW)) m hp (newLst dy)
    exact k _ _ _ _ (q p (m.dom hp)) c2 rfl m2
  · exact h.elim
theorem se_sorted {j : Nat} (hr : Room j X.A) (h : SE X e G mu fun w mu1 => sortedW [w] mu1 P) (hm : X.mg "sorted" = none) (hg : Gl X "sorted" := by rfl) (he : starEach [e] X.env = [(false, eval e X.env)] := by rfl) (hpl : (backTo pos (starEach [] X.env)).any (·.1) = false := by rfl) :
    SE X (.Call (.Name "sorted" p) [e] [] pos) G mu P := se_blt (cr_sortedW hr) sorted_w hm (sa_one h he) (by decide +kernel) hg (by decide) (by decide) he hpl
end
end Dv
set_option Elab.async false
set_option linter.all false
set_option maxRecDepth 100000
/-! Instances of own classes by values: made, their fields stored, their methods called. -/
namespace Dv
open PySem L2
section
variable {K : PySem.W.Frag} {H : Hp}
theorem DKV.putF : ∀ {fs : List (Str × W)} {vs : List (Str × V)} {f : Str} {w : W} {v : V}, DKV K H fs vs → Den K H w v → DKV K H (putW fs f w) (putF f v vs)
  | [], _, f, w, v, d, dv => by
    rw [d.nil]
    exact DKV.mk dv ⟨rfl, rfl⟩
  | (j, u) :: r, _, f, w, v, d, dv => by
    obtain ⟨v', vs', rfl, d1, d2⟩ := d.cons
    unfold putW L2.putF
    by_cases e : j = f
    · rw [if_pos e, if_pos e]
      first
        | exact DKV.mk dv d2
        | (subst e; exact DKV.mk dv d2)
    · rw [if_neg e, if_neg e]
      exact DKV.mk d1 (DKV.putF d2 dv)
end
/-- a method as it stands behind the top -/
structure MDfn (K : PySem.W.Frag) (Cl : Addr) (m qual : Str) (st : Stmt) (ps : List Str) : Prop where
  ex : ∃ f fd, Fun K m qual st f fd ∧ Meth K Cl m f ∧ Binds K fd ps []
structure MetOk (P : Program) (w : World) (K : PySem.W.Frag) (mg : Str → Option Value) (base : Heap) (Cl : Addr) (m : Str) (ps : List Str) (k : Nat) (S : SpW) : Prop where
  ex : ∃ f fd, FnOk P w K mg base CX0 k f fd ps (spW K S) ∧ Meth K Cl m f ∧ Binds K fd ps []
structure MakOk (P : Program) (w : World) (K : PySem.W.Frag) (mg : Str → Option Value) (base : Heap) (x : Str) (Cl : Addr) (ps : List Str) (k : Nat) (S : SpW) : Prop where
  ex : ∃ f fd, FnOk P w K mg base CX0 k f fd ps (spW K S) ∧ Mk K Cl f ∧ mg x = some (.ref Cl) ∧ Binds K fd ps []
structure KDfn (K : PySem.W.Frag) (mg : Str → Option Value) (x : Str) (Cl : Addr) (qual : Str) (st : Stmt) (ps : List Str) : Prop where
  ex : ∃ f fd, Fun K "__init__" qual st f fd ∧ Mk K Cl f ∧ mg x = some (.ref Cl) ∧ Binds K fd ps []
section
variable {P : Program} {w : World} {K : PySem.W.Frag} {mg : Str → Option Value} {base : Heap}
theorem metOk {Cl : Addr} {m qual : Str} {st : Stmt} {N ps : List Str} {k : Nat} {S : SpW} (D : MDfn K Cl m qual st ps) (Sc : FnScope N ps (defScope st)) (len : ∀ ws mu P, S ws mu P → ws.length = ps.length)
    (body : ∀ (f : Addr) (cdv : Value) (A : Around) (outer : List Env) (s : Shared) (H : Hp) (E : XK), Room k (A.deeper (PyProof.Rows.envOfC qual (defScope st) s.heap.objs.size f cdv)) → ∀ ws mu Pt, S ws mu Pt →
      SSs (cxOf CX0 P w K mg base N qual (defScope st) f cdv A outer s H E).nox (defBody st) (startW N ws) mu { nx := fun _ mu' => Pt .non mu', rt := Pt }) : MetOk P w K mg base Cl m ps (k + 1) S := by
  obtain ⟨f, fd, F, hm, hb⟩ := D.ex
  exact ⟨f, fd, okW F Sc len (body f), hm, hb⟩
theorem makOk {x : Str} {Cl : Addr} {qual : Str} {st : Stmt} {N ps : List Str} {k : Nat} {S : SpW} (D : KDfn K mg x Cl qual st ps) (Sc : FnScope N ps (defScope st)) (len : ∀ ws mu P, S ws mu P → ws.length = ps.length)
    (body : ∀ (f : Addr) (cdv : Value) (A : Around) (outer : List Env) (s : Shared) (H : Hp) (E : XK), Room k (A.deeper (PyProof.Rows.envOfC qual (defScope st) s.heap.objs.size f cdv)) → ∀ ws mu Pt, S ws mu Pt →
      SSs (cxOf CX0 P w K mg base N qual (defScope st) f cdv A outer s H E).nox (defBody st) (startW N ws) mu { nx := fun _ mu' => Pt .non mu', rt := Pt }) : MakOk P w K mg base x Cl ps (k + 1) S := by
  obtain ⟨f, fd, F, hm, hg, hb⟩ := D.ex
  exact ⟨f, fd, okW F Sc len (body f), hm, hg, hb⟩
end
section
variable {X : Cx} {e a b c : Expr} {es : List Expr} {st : Stmt} {sts : List Stmt} {G : Gs} {mu mu' : Mu} {pos p apos cpos : Pos} {P : PW1}
theorem newIns {K : PySem.W.Frag} {H : Hp} {x Cl dx : Addr} {vs : List (Str × V)} {fs : List (Str × W)} (d : DKV K H fs vs) : ∀ H', (∀ a xs, SqT K H a xs → SqT K H' a xs) → H' x = some (.ins Cl dx vs) → CellOk K H' x (.ins Cl fs) := fun H' st h => ⟨dx, vs, h, d.1, DenAll.mono st _ d.2⟩
/-- self.f = e -/
theorem ss_fld {E : WE} {f : Str} {pos' : Pos} (h : SE X e G mu fun w mu1 => SE X a G mu1 fun o mu2 => ∃ aa Cl fs, o = .m aa ∧ mu2 aa = some (.ins Cl fs) ∧ Cls X.K Cl ∧ NoAttr X.K Cl f ∧ fs.length < 1000 ∧ E.nx G (setM mu2 aa (.ins Cl (putW fs f w))))
    (hs : swapsWith e (some (.Attribute a f pos')) pos.line X.env = pure false := by rfl) : SS X (.Assign [.Attribute a f pos'] e pos) G mu E :=
  SS.mk (ps_fld peE peE hs) fun σ H D d m k => h σ H _ d m fun v w mu1 H1 h1 c1 d1 m1 => h1 σ H1 _ (c1.denG m d) m1 fun x o mu2 H2 h2 c2 d2 m2 => by
    obtain ⟨aa, Cl, fs, rfl, e0, hc, hn, hl, q⟩ := h2
    have d2 : x = .ref aa := d2
    subst d2
    obtain ⟨dx, vs, hx, dk⟩ := m2 aa _ e0
    have dk : DKV X.K H2 fs vs := dk
    have d1 := c2.den m1 d1
    obtain ⟨c4, m4⟩ := wrote (o := .ins Cl dx (L2.putF f v vs)) (c := .ins Cl (putW fs f w)) m2 e0 (newIns (dx := dx) (dk.putF d1))
    have cc := c1.trans c2
    refine ⟨aa, Cl, dx, vs, rfl, hx, hc, hn, ?_, k.nx _ _ _ _ q (cc.trans c4) (c4.denG m2 (cc.denG m d)) m4⟩
    have := congrArg List.length dk.1
    simp only [List.length_map] at this
    omega
/-- C(e, ..) -/
theorem se_make {x : Str} {Cl : Addr} {ps : List Str} {k : Nat} {S : SpW} (D : MakOk X.prog X.w X.K X.mg X.base x Cl ps k S) (hr : Room (k + 1) X.A) (h : SA X (e :: es) G mu fun ws mu1 => ∀ y, mu1 y = none → S (.m y :: ws) (setM mu1 y (.ins Cl [])) fun w mu2 => w = .non ∧ P (.m y) mu2)
    (hg : Gl X x := by rfl) (hdb : (x == ("__debug__" : Str)) = false := by decide) (he : starEach (e :: es) X.env = (false, eval e X.env) :: starEach es X.env := by rfl) (hpl : (backTo pos (starEach es X.env)).any (·.1) = false := by rfl) : SE X (.Call (.Name x p) (e :: es) [] pos) G mu P := by
  obtain ⟨f, fd, F, hm, hgm, hb⟩ := D.ex
  exact SE.mk (pe_make hm F hr hg hgm hb .nil pass0 paA hdb he hpl) fun σ H Q d m k => h σ H _ d m fun vs ws mu1 H1 h1 c1 d1 m1 => fun y dx hy hdx ne => by
    obtain ⟨c2, m2⟩ := laid (o := .own y) m1 hdx
    have hy2 : upd H1 dx (.own y) y = none := by rw [upd_ne fun z => ne z.symm]; exact hy
    obtain ⟨c3, m3⟩ := laidC (o := .ins Cl dx []) (c := .ins Cl []) m2 hy2 (newIns (dx := dx) (fs := []) ⟨rfl, rfl⟩)
    refine ⟨_, _, _, h1 y (m1.dom hy), ⟨_, _, rfl, rfl, ?_⟩, m3, fun v w mu4 H4 h4 c4 d4 m4 => ?_⟩
    · rw [List.append_nil]
      exact c3.denAll m2 (c2.denAll m1 d1)
    · obtain ⟨rfl, q⟩ := h4
      exact ⟨d4, k _ _ _ _ q (((c1.trans c2).trans c3).trans c4) rfl m4⟩
/-- o.m(e, ..) -/
theorem se_meth {mn : Str} {Cl : Addr} {ps : List Str} {k : Nat} {S : SpW} {o : Expr} {pl : Sem Bool} (D : MetOk X.prog X.w X.K X.mg X.base Cl mn ps k S) (hc : Cls X.K Cl) (hr : Room k X.A)
    (h : SE X o G mu fun w mu1 => ∃ aa fs, w = .m aa ∧ mu1 aa = some (.ins Cl fs) ∧ valW fs mn = none ∧ SA X (e :: es) G mu1 fun ws mu2 => S (.m aa :: ws) mu2 P)
    (he : starEach (e :: es) X.env = (false, eval e X.env) :: starEach es X.env := by rfl) (hpl : (backTo pos (starEach es X.env)).any (·.1) = false := by rfl)
    (hev : eval (.Call (.Attribute o mn apos) (e :: es) [] pos) X.env = (do
      let ov ← eval o X.env
      standAt apos.atName
      let __x ← holding [ov] (getMethod ov mn pl)
      match __x with
        | (f, first) => callWith pos f first (backTo pos (starEach (e :: es) X.env)) (backToKw pos (keywordEach [] X.env))) := by rfl) : SE X (.Call (.Attribute o mn apos) (e :: es) [] pos) G mu P := by
  obtain ⟨f, fd, F, hm, hb⟩ := D.ex
  exact SE.mk (pe_meth peE hc hm F hr hb .nil pass0 paA he hpl hev) fun σ H Q d m k => h σ H _ d m fun v w mu1 H1 h1 c1 d1 m1 => by
    obtain ⟨aa, fs, rfl, e0, hn, h2⟩ := h1
    have d1 : v = .ref aa := d1
    subst d1
    obtain ⟨dx, vs, hx, dk⟩ := m1 aa _ e0
    refine ⟨aa, dx, vs, rfl, hx, (lookup_valV vs mn).trans (DKV.getN (K := X.K) (H := H1) dk hn), h2 σ H1 _ (c1.denG m d) m1 fun vs' ws mu2 H2 h3 c2 d2 m2 => ⟨_, _, P, h3, ⟨_, _, rfl, rfl, ?_⟩, m2, k.step (c1.trans c2)⟩⟩
    rw [List.append_nil]
    exact d2
end
end Dv
set_option Elab.async false
set_option linter.all false
set_option maxRecDepth 100000
/-! Whole numbers by values. -/
namespace Dv
open PySem L2
section
variable {X : Cx} {e a b c : Expr} {es : List Expr} {st : Stmt} {sts : List Stmt} {G : Gs} {mu mu' : Mu} {pos p apos cpos : Pos} {P : PW1}
abbrev iopW (Cc : Int → Int → Prop) (g : Int → Int → Int) (w1 w2 : W) (mu : Mu) (P : PW1) : Prop := match w1, w2 with | .int i, .int j => Cc i j ∧ P (.int (g i j)) mu | _, _ => False
abbrev iop0W (g : Int → Int → Int) (w1 w2 : W) (mu : Mu) (P : PW1) : Prop := match w1, w2 with | .int i, .int j => P (.int (g i j)) mu | _, _ => False
theorem iop_w {Cc : Int → Int → Prop} {g : Int → Int → Int} : OpW X (rI Cc fun i j => .int (g i j)) (iopW Cc g) := fun w1 w2 x y mu H P Q dx dy m h k => by
  unfold iopW at h
  split at h
  · rename_i i j
    exact ⟨i, j, dx, dy, h.1, k.now h.2 rfl m⟩
  · exact h.elim
theorem iop0_w {g : Int → Int → Int} : OpW X (rI0 fun i j => .int (g i j)) (iop0W g) := fun w1 w2 x y mu H P Q dx dy m h k => by
  unfold iop0W at h
  split at h
  · rename_i i j
    exact ⟨i, j, dx, dy, k.now h rfl m⟩
  · exact h.elim
abbrev intW (w : W) (mu : Mu) (P : PW1) : Prop := match w with | .int i => P (.int i) mu | .bl k => P (.int (if k then 1 else 0)) mu | _ => False
theorem int_w : CallW X (fun xs H Q => (∃ i, xs = [.int i] ∧ Q (.int i) H) ∨ ∃ k, xs = [.bl k] ∧ Q (.int (if k then 1 else 0)) H) fun ws mu P => match ws with | [w] => intW w mu P | _ => False := fun ws vs mu H P Q d m h k => by
  dsimp only at h
  split at h
  · rename_i w
    obtain ⟨v, rfl, d0⟩ := d.one
    unfold intW at h
    split at h
    · rename_i i
      exact .inl ⟨i, by rw [show v = .int i from d0], k.now h rfl m⟩
    · rename_i i
      exact .inr ⟨i, by rw [show v = .bl i from d0], k.now h rfl m⟩
    · exact h.elim
  · exact h.elim
theorem se_intC (h : SE X e G mu fun w mu1 => intW w mu1 P) (hm : X.mg "int" = none) (hv : bootBuiltins ("int" : Str) = some (.type "int") := by decide +kernel) (hg : Gl X "int" := by rfl) (hs : starEach [e] X.env = [(false, eval e X.env)] := by rfl) (hpl : (backTo pos (starEach [] X.env)).any (·.1) = false := by rfl) : SE X (.Call (.Name "int" p) [e] [] pos) G mu P :=
  se_bty call_int1 int_w hm (sa_one h hs) hv hg (by decide) (by decide) hs hpl
theorem abs_w : CallW X (fun xs H Q => ∃ i, xs = [.int i] ∧ Q (.int (if i < 0 then -i else i)) H) fun ws mu P => match ws with | [.int i] => P (.int (if i < 0 then -i else i)) mu | _ => False := fun ws vs mu H P Q d m h k => by
  dsimp only at h
  split at h
  · rename_i i
    obtain ⟨v, rfl, d0⟩ := d.one
    exact ⟨i, by rw [show v = .int i from d0], k.now h rfl m⟩
  · exact h.elim
theorem se_absC (h : SE X e G mu fun w mu1 => ∃ i, w = .int i ∧ P (.int (if i < 0 then -i else i)) mu1) (hm : X.mg "abs" = none) (hv : bootBuiltins ("abs" : Str) = some (.builtin "abs") := by decide +kernel) (hg : Gl X "abs" := by rfl) (hs : starEach [e] X.env = [(false, eval e X.env)] := by rfl) (hpl : (backTo pos (starEach [] X.env)).any (·.1) = false := by rfl) : SE X (.Call (.Name "abs" p) [e] [] pos) G mu P :=
  se_blt call_abs abs_w hm (sa_one (h.imp fun w mu' ⟨i, e, q⟩ => by subst e; exact q) hs) hv hg (by decide) (by decide) hs hpl
/-- the power of a base of more than 64 bits -/
theorem op_powW : OpR X (binaryOp .Pow) (rI (fun i j => 0 ≤ j ∧ (PySem.Builtin.Int.intBits i : Int) * j ≤ 2 ^ 27) fun i j => .int (i ^ j.toNat)) := opI fun _ _ _ _ _ _ _ hc q => PyProof.Rows.pow_int hc.1 hc.2 q
theorem op_Add : OpR X (binaryOp .Add) (rI0 fun i j => .int (i + j)) := op_add
theorem op_Sub : OpR X (binaryOp .Sub) (rI0 fun i j => .int (i - j)) := op_sub
theorem op_Mult : OpR X (binaryOp .Mult) (rI (fun i j => CMulW i j) fun i j => .int (i * j)) := op_mulW
theorem op_Mod : OpR X (binaryOp .Mod) (rI (fun i j => 0 < j) fun i j => .int (i % j)) := op_mod
theorem op_FloorDiv : OpR X (binaryOp .FloorDiv) (rI (fun i j => CDivW i j) fun i j => .int (i / j)) := op_fdivW
theorem op_Pow : OpR X (binaryOp .Pow) (rI (fun i j => CPow i j) fun i j => .int (i ^ j.toNat)) := op_pow
abbrev opAddV (w1 w2 : W) (mu : Mu) (P : PW1) : Prop := match w1, w2 with | .int i, .int j => P (.int (i + j)) mu | _, _ => False
theorem Add_w : OpW X (rI0 fun i j => .int (i + j)) opAddV := fun w1 w2 x y mu H P Q dx dy m h k => by
  unfold opAddV at h
  split at h
  · rename_i i j
    exact ⟨i, j, dx, dy, k.now h rfl m⟩
  · exact h.elim
abbrev opSubV (w1 w2 : W) (mu : Mu) (P : PW1) : Prop := match w1, w2 with | .int i, .int j => P (.int (i - j)) mu | _, _ => False
theorem Sub_w : OpW X (rI0 fun i j => .int (i - j)) opSubV := fun w1 w2 x y mu H P Q dx dy m h k => by
  unfold opSubV at h
  split at h
  · rename_i i j
    exact ⟨i, j, dx, dy, k.now h rfl m⟩
  · exact h.elim
abbrev opMultV (w1 w2 : W) (mu : Mu) (P : PW1) : Prop := match w1, w2 with | .int i, .int j => CMulW i j ∧ P (.int (i * j)) mu | _, _ => False
theorem Mult_w : OpW X (rI (fun i j => CMulW i j) fun i j => .int (i * j)) opMultV := fun w1 w2 x y mu H P Q dx dy m h k => by
  unfold opMultV at h
  split at h
  · rename_i i j
    exact ⟨i, j, dx, dy, h.1, k.now h.2 rfl m⟩
  · exact h.elim
abbrev opModV (w1 w2 : W) (mu : Mu) (P : PW1) : Prop := match w1, w2 with | .int i, .int j => 0 < j ∧ P (.int (i % j)) mu | _, _ => False
theorem Mod_w : OpW X (rI (fun i j => 0 < j) fun i j => .int (i % j)) opModV := fun w1 w2 x y mu H P Q dx dy m h k => by
  unfold opModV at h
  split at h
  · rename_i i j
    exact ⟨i, j, dx, dy, h.1, k.now h.2 rfl m⟩
  · exact h.elim
abbrev opFloorDivV (w1 w2 : W) (mu : Mu) (P : PW1) : Prop := match w1, w2 with | .int i, .int j => CDivW i j ∧ P (.int (i / j)) mu | _, _ => False
theorem FloorDiv_w : OpW X (rI (fun i j => CDivW i j) fun i j => .int (i / j)) opFloorDivV := fun w1 w2 x y mu H P Q dx dy m h k => by
  unfold opFloorDivV at h
  split at h
  · rename_i i j
    exact ⟨i, j, dx, dy, h.1, k.now h.2 rfl m⟩
  · exact h.elim
abbrev opPowV (w1 w2 : W) (mu : Mu) (P : PW1) : Prop := match w1, w2 with | .int i, .int j => CPow i j ∧ P (.int (i ^ j.toNat)) mu | _, _ => False
theorem Pow_w : OpW X (rI (fun i j => CPow i j) fun i j => .int (i ^ j.toNat)) opPowV := fun w1 w2 x y mu H P Q dx dy m h k => by
  unfold opPowV at h
  split at h
  · rename_i i j
    exact ⟨i, j, dx, dy, h.1, k.now h.2 rfl m⟩
  · exact h.elim
abbrev opPowWV (w1 w2 : W) (mu : Mu) (P : PW1) : Prop := match w1, w2 with | .int i, .int j => (0 ≤ j ∧ (PySem.Builtin.Int.intBits i : Int) * j ≤ 2 ^ 27) ∧ P (.int (i ^ j.toNat)) mu | _, _ => False
theorem PowW_w : OpW X (rI (fun i j => (0 ≤ j ∧ (PySem.Builtin.Int.intBits i : Int) * j ≤ 2 ^ 27)) fun i j => .int (i ^ j.toNat)) opPowWV := fun w1 w2 x y mu H P Q dx dy m h k => by
  unfold opPowWV at h
  split at h
  · rename_i i j
    exact ⟨i, j, dx, dy, h.1, k.now h.2 rfl m⟩
  · exact h.elim
/-! texts and tuples put together -/
abbrev catW (w1 w2 : W) (mu : Mu) (P : PW1) : Prop := match w1, w2 with | .str i, .str j => i.length + j.length ≤ sizeLine ∧ P (.str (i ++ j)) mu | _, _ => False
theorem cat_w : OpW X (fun x y H Q => ∃ i j, x = .str i ∧ y = .str j ∧ i.length + j.length ≤ sizeLine ∧ Q (.str (i ++ j)) H) catW := fun w1 w2 x y mu H P Q dx dy m h k => by
  unfold catW at h
  split at h
  · rename_i i j
    exact ⟨i, j, dx, dy, h.1, k.now h.2 rfl m⟩
  · exact h.elim
end
end Dv
set_option Elab.async false
set_option linter.all false
set_option maxRecDepth 100000
namespace K1
open PySem L2 Dv
/-- the law's jar: three whole numbers, drawn from at most c times -/
structure JarOk (mu : Mu) (p : Addr) (c : Nat) : Prop where
  ex : ∃ a b n : Int, mu p = some (.lst [.int a, .int b, .int n]) ∧ 0 ≤ a ∧ a < 10 ^ 300 ∧ 0 ≤ b ∧ b < 2 ^ 61 ∧ 0 ≤ n ∧ n ≤ c
theorem JarOk.mono {mu : Mu} {p : Addr} {c c' : Nat} (h : JarOk mu p c) (l : c ≤ c') : JarOk mu p c' := by
  obtain ⟨a, b, n, h1, h2, h3, h4, h5, h6, h7⟩ := h.ex
  exact ⟨a, b, n, h1, h2, h3, h4, h5, h6, by omega⟩
theorem JarOk.ext {mu mu' : Mu} {p : Addr} {c : Nat} (h : JarOk mu p c) (e : Ext mu mu') : JarOk mu' p c := by
  obtain ⟨a, b, n, h1, h2⟩ := h.ex
  exact ⟨a, b, n, e _ _ h1, h2⟩
theorem JarOk.ne {mu : Mu} {p q : Addr} {c : Nat} (h : JarOk mu p c) (hq : mu q = none) : p ≠ q := by
  obtain ⟨a, b, n, h1, h2⟩ := h.ex
  intro z
  rw [z, hq] at h1
  cases h1
theorem JarOk.set {mu : Mu} {p q : Addr} {c : Nat} {x : C} (h : JarOk mu p c) (hq : p ≠ q) : JarOk (setM mu q x) p c := by
  obtain ⟨a, b, n, h1, h2⟩ := h.ex
  exact ⟨a, b, n, by rw [setM_ne hq]; exact h1, h2⟩
theorem log2_lt {n m : Nat} (h : n < 2 ^ m) (hm : 1 ≤ m) : n.log2 < m := by
  by_cases z : n = 0
  · subst z; simp; omega
  · exact (Nat.log2_lt z).mpr h
theorem cmulW {i j : Int} (a b : Nat) (hi : i.natAbs < 2 ^ a) (hj : j.natAbs < 2 ^ b) (ha : 1 ≤ a) (hb : 1 ≤ b) (h : a + b < 1000000) : CMulW i j := by
  have h1 := log2_lt hi ha
  have h2 := log2_lt hj hb
  unfold CMulW
  omega
theorem cdivW {i j : Int} (b : Nat) (h0 : 0 < j) (hj : j.natAbs < 2 ^ b) (hb : 1 ≤ b) (h : b < 9000) : CDivW i j := ⟨h0, by have := log2_lt hj hb; omega⟩
theorem ExtBut.setNew {y q : Addr} {mu mu' : Mu} {c : C} (e : ExtBut y mu mu') (h : mu' q = none) : ExtBut y mu (setM mu' q c) := fun a d hn ha => by
  have := e a d hn ha
  rw [setM_ne (fun z => by rw [z, h] at this; cases this)]
  exact this
theorem ExtBut.trans {y : Addr} {mu mu' mu2 : Mu} (e : ExtBut y mu mu') (e2 : ExtBut y mu' mu2) : ExtBut y mu mu2 := fun a c h ha => e2 a c h (e a c h ha)
theorem Ext.but {y : Addr} {mu mu' : Mu} (e : Ext mu mu') : ExtBut y mu mu' := fun a c _ ha => e a c ha
section
variable {P : Program} {w : World} {K : PySem.W.Frag} {mg : Str → Option Value} {base : Heap}
abbrev s_Ltake : Stmt := top 43
theorem sc_Ltake : FnScope ["_law_jar_here", "_law_many", "_law_digit", "_law_prime", "_law_made"] ["_law_jar_here", "_law_many"] (defScope s_Ltake) := ⟨rfl, rfl, rfl, by decide +kernel, rfl, by decide +kernel, by decide +kernel⟩
def S_take : SpW := fun ws mu P => ∃ p m c, ws = [.m p, .int m] ∧ 1 ≤ m ∧ m ≤ 10 ^ 18 ∧ JarOk mu p c ∧ c < 10000 ∧ ∀ r mu', 0 ≤ r → r < m → JarOk mu' p (c + 1) → ExtBut p mu mu' → P (.int r) mu'
theorem primes (n : Int) (h : 0 ≤ n) : ∃ q : Int, atI [W.int 2147483647, .int 2147483629, .int 2147483587, .int 2147483579, .int 2147483563] (n % 5) = some (.int q) ∧ 0 < q ∧ q < 2147483648 := by
  have h1 : n % 5 = 0 ∨ n % 5 = 1 ∨ n % 5 = 2 ∨ n % 5 = 3 ∨ n % 5 = 4 := by omega
  rcases h1 with h1 | h1 | h1 | h1 | h1 <;> rw [h1] <;> exact ⟨_, rfl, by decide, by decide⟩
theorem d_Ltake (D : Dfn K mg "_law_take" s_Ltake ["_law_jar_here", "_law_many"]) (B : Bl mg) : DefOk P w K mg base "_law_take" ["_law_jar_here", "_law_many"] 1 S_take := by
  refine dfnOk D sc_Ltake (fun ws mu P ⟨p, m, c, e, _⟩ => by rw [e]; rfl) (fun f cdv A outer s H E hr ws mu Pt ⟨p, m, c, e, m1, m2, jar, c1, h⟩ => ?_)
  subst e
  obtain ⟨a, b, n, hp, a0, a1, b0, b1, n0, n1⟩ := jar.ex
  refine sss_cons ?_
  refine ss_if ?_
  refine st_cmp op_gt cmpI_w (nomark _) ?_  -- _law_jar_here[0] > 0
  refine se_ix ?_  -- _law_jar_here[0]
  refine se_var (i := 0) rfl ?_  -- _law_jar_here
  refine se_int ?_  -- 0
  refine ⟨_, _, hp, atI_nat' (i := 0) rfl, ?_⟩
  refine se_int ?_  -- 0
  by_cases ha : 0 < a
  · show if2 (decide (0 < a)) _ _
    rw [decide_eq_true ha]
    refine sss_cons ?_
    refine ss_asg ?_
    refine se_bin op_Mod Mod_w ?_
    refine se_intC ?_ B.int
    refine se_ix ?_  -- _law_jar_here[0]
    refine se_var (i := 0) rfl ?_  -- _law_jar_here
    refine se_int ?_  -- 0
    refine ⟨_, _, hp, atI_nat' (i := 0) rfl, ?_⟩
    refine se_var (i := 1) rfl ?_  -- _law_many
    refine ⟨by omega, ?_⟩
    refine sg_name (i := 2) ?_ sc_Ltake.nd  -- _law_digit =
    refine sss_cons ?_
    refine ss_stL ?_ -- or ss_dput (hu_of hr)
    refine se_bin op_FloorDiv FloorDiv_w ?_
    refine se_ix ?_  -- _law_jar_here[0]
    refine se_var (i := 0) rfl ?_  -- _law_jar_here
    refine se_int ?_  -- 0
    refine ⟨_, _, hp, atI_nat' (i := 0) rfl, ?_⟩
    refine se_var (i := 1) rfl ?_  -- _law_many
    refine ⟨cdivW 60 (by omega) (by omega) (by decide) (by decide), ?_⟩
    refine se_var (i := 0) rfl ?_  -- _law_jar_here
    refine se_int ?_  -- 0
    refine ⟨_, 0, hp, rfl, ?_⟩
    refine sss_cons ?_
    refine ss_ret ?_
    refine se_var (i := 2) rfl ?_  -- _law_digit
    refine h _ _ (Int.emod_nonneg _ (by omega)) (Int.emod_lt_of_pos _ (by omega)) ⟨a / m, b, n, setM_same, Int.ediv_nonneg a0 (by omega), ?_, b0, b1, n0, by omega⟩ ExtBut.refl.set
    exact Int.lt_of_le_of_lt (Int.ediv_le_self _ a0) a1
  · show if2 (decide (0 < a)) _ _
    rw [decide_eq_false ha]
    refine sss_nil ?_
    refine sss_cons ?_
    refine ss_stL ?_ -- or ss_dput (hu_of hr)
    refine se_bin op_Add Add_w ?_
    refine se_ix ?_  -- _law_jar_here[2]
    refine se_var (i := 0) rfl ?_  -- _law_jar_here
    refine se_int ?_  -- 2
    refine ⟨_, _, hp, atI_nat' (i := 2) rfl, ?_⟩
    refine se_int ?_  -- 1
    refine se_var (i := 0) rfl ?_  -- _law_jar_here
    refine se_int ?_  -- 2
    refine ⟨_, 2, hp, rfl, ?_⟩
    have hn : ∃ n', n' = n + 1 := ⟨_, rfl⟩
    obtain ⟨n', hn⟩ := hn
    rw [← hn]
    have n0' : 0 ≤ n' := by omega
    have n1' : n' ≤ 10000 := by omega
    obtain ⟨q, hq, q0, q1⟩ := primes n' n0'
    refine sss_cons ?_
    refine ss_asg ?_
    refine se_ix ?_
    refine se_lst ?_
    refine sa_cons (se_int (sa_cons (se_int (sa_cons (se_int (sa_cons (se_int (sa_cons (se_int (sa_nil ?_))))))))))
    refine ⟨by decide, fun p1 np => ?_⟩
    have hne : p ≠ p1 := fun z => by rw [← z, setM_same] at np; cases np
    have hp2 : setM (setM mu p (.lst [.int a, .int b, .int n'])) p1 (.lst [.int 2147483647, .int 2147483629, .int 2147483587, .int 2147483579, .int 2147483563]) p = some (.lst [.int a, .int b, .int n']) := by rw [setM_ne hne, setM_same]
    refine se_bin op_Mod Mod_w ?_
    refine se_intC ?_ B.int
    refine se_ix ?_  -- _law_jar_here[2]
    refine se_var (i := 0) rfl ?_  -- _law_jar_here
    refine se_int ?_  -- 2
    refine ⟨_, _, hp2, atI_nat' (i := 2) rfl, ?_⟩
    refine se_int ?_  -- 5
    refine ⟨by decide, ?_⟩
    refine ⟨_, _, setM_same, hq, ?_⟩
    refine sg_name (i := 3) ?_ sc_Ltake.nd  -- _law_prime =
    refine sss_cons ?_
    refine ss_asg ?_
    refine se_bin op_Mod Mod_w ?_
    refine se_intC ?_ B.int
    refine se_bin op_Pow Pow_w ?_
    refine se_bin op_Add Add_w ?_
    refine se_bin op_Add Add_w ?_
    refine se_ix ?_  -- _law_jar_here[1]
    refine se_var (i := 0) rfl ?_  -- _law_jar_here
    refine se_int ?_  -- 1
    refine ⟨_, _, hp2, atI_nat' (i := 1) rfl, ?_⟩
    refine se_bin op_Mult Mult_w ?_
    refine se_bin op_Mult Mult_w ?_
    refine se_int ?_  -- 99877
    refine se_ix ?_  -- _law_jar_here[2]
    refine se_var (i := 0) rfl ?_  -- _law_jar_here
    refine se_int ?_  -- 2
    refine ⟨_, _, hp2, atI_nat' (i := 2) rfl, ?_⟩
    refine ⟨cmulW 17 14 (by omega) (by omega) (by decide) (by decide) (by decide), ?_⟩
    refine se_ix ?_  -- _law_jar_here[2]
    refine se_var (i := 0) rfl ?_  -- _law_jar_here
    refine se_int ?_  -- 2
    refine ⟨_, _, hp2, atI_nat' (i := 2) rfl, ?_⟩
    refine ⟨cmulW 31 14 (by omega) (by omega) (by decide) (by decide) (by decide), ?_⟩
    have sq : 99877 * n' * n' ≤ 998770000 * 10000 := Int.mul_le_mul (by omega) (by omega) (by omega) (by omega)
    have sq0 : 0 ≤ 99877 * n' * n' := Int.mul_nonneg (by omega) (by omega)
    have hx : ∃ x, x = 99877 * n' * n' := ⟨_, rfl⟩
    obtain ⟨x, hx⟩ := hx
    rw [← hx] at sq sq0 ⊢
    refine se_int ?_  -- 71
    refine se_int ?_  -- 3
    refine ⟨⟨by decide, by decide, by omega⟩, ?_⟩
    refine se_var (i := 3) rfl ?_  -- _law_prime
    refine ⟨q0, ?_⟩
    have hy : ∃ y, y = (b + x + 71) ^ (3 : Int).toNat % q := ⟨_, rfl⟩
    obtain ⟨y, hy⟩ := hy
    have y0 : 0 ≤ y := by rw [hy]; exact Int.emod_nonneg _ (by omega)
    have y1 : y < q := by rw [hy]; exact Int.emod_lt_of_pos _ q0
    rw [← hy]
    refine sg_name (i := 4) ?_ sc_Ltake.nd  -- _law_made_here =
    refine sss_cons ?_
    refine ss_asg ?_
    refine se_bin op_Mod Mod_w ?_
    refine se_intC ?_ B.int
    refine se_bin op_Mult Mult_w ?_
    refine se_var (i := 4) rfl ?_  -- _law_made_here
    refine se_bin op_Add Add_w ?_
    refine se_bin op_Mod Mod_w ?_
    refine se_intC ?_ B.int
    refine se_var (i := 4) rfl ?_  -- _law_made_here
    refine se_int ?_  -- 10007
    refine ⟨by decide, ?_⟩
    refine se_bin op_Mult Mult_w ?_
    refine se_int ?_  -- 89
    refine se_ix ?_  -- _law_jar_here[2]
    refine se_var (i := 0) rfl ?_  -- _law_jar_here
    refine se_int ?_  -- 2
    refine ⟨_, _, hp2, atI_nat' (i := 2) rfl, ?_⟩
    refine ⟨cmulW 7 14 (by omega) (by omega) (by decide) (by decide) (by decide), ?_⟩
    refine ⟨cmulW 31 20 (by omega) (by omega) (by decide) (by decide) (by decide), ?_⟩
    refine se_int ?_  -- 2305843009213693907
    refine ⟨by decide, ?_⟩
    refine sg_name (i := 4) ?_ sc_Ltake.nd  -- _law_made_here =
    refine sss_cons ?_
    refine ss_ret ?_
    refine se_bin op_Mod Mod_w ?_
    refine se_intC ?_ B.int
    refine se_bin op_FloorDiv FloorDiv_w ?_
    refine se_var (i := 4) rfl ?_  -- _law_made_here
    refine se_int ?_  -- 83
    refine ⟨cdivW 7 (by decide) (by decide) (by decide) (by decide), ?_⟩
    refine se_var (i := 1) rfl ?_  -- _law_many
    refine ⟨by omega, ?_⟩
    exact h _ _ (Int.emod_nonneg _ (by omega)) (Int.emod_lt_of_pos _ (by omega)) ⟨a, b, n', hp2, a0, a1, b0, b1, n0', by omega⟩ (ExtBut.refl.set.setNew np)
end
end K1
set_option Elab.async false
set_option linter.all false
set_option maxRecDepth 100000
namespace K1
open PySem L2 Dv
section
variable {P : Program} {w : World} {K : PySem.W.Frag} {mg : Str → Option Value} {base : Heap}
theorem atI_lt {α : Type} {xs : List α} {r : Int} (h0 : 0 ≤ r) (h1 : r < xs.length) : ∃ x ∈ xs, atI xs r = some x := by
  obtain ⟨n, rfl⟩ : ∃ n : Nat, r = n := ⟨r.toNat, by omega⟩
  have hr : n < xs.length := by omega
  exact ⟨xs[n], List.getElem_mem hr, atI_nat' (List.getElem?_eq_getElem hr)⟩
/-- what _law_of may choose from -/
def OfV (mu : Mu) (p : Addr) (v : W) (us : List W) : Prop := v = .tup us ∨ (∃ a, v = .m a ∧ a ≠ p ∧ mu a = some (.lst us)) ∨ ∃ z : Str, v = .str z ∧ z.length ≤ sizeLine ∧ us = z.cps.toList.map fun c => .str ⟨#[c]⟩
abbrev s_Lof : Stmt := top 44
theorem sc_Lof : FnScope ["_law_jar_here", "_law_some"] ["_law_jar_here", "_law_some"] (defScope s_Lof) := ⟨rfl, rfl, rfl, by decide +kernel, rfl, by decide +kernel, by decide +kernel⟩
def S_of : SpW := fun ws mu P => ∃ p v us c, ws = [.m p, v] ∧ OfV mu p v us ∧ us ≠ [] ∧ us.length ≤ 1000 ∧ JarOk mu p c ∧ c < 10000 ∧ ∀ u mu', u ∈ us → JarOk mu' p (c + 1) → ExtBut p mu mu' → P u mu'
abbrev DTake (P : Program) (w : World) (K : PySem.W.Frag) (mg : Str → Option Value) (base : Heap) : Prop := DefOk P w K mg base "_law_take" ["_law_jar_here", "_law_many"] 1 S_take
abbrev DOf (P : Program) (w : World) (K : PySem.W.Frag) (mg : Str → Option Value) (base : Heap) : Prop := DefOk P w K mg base "_law_of" ["_law_jar_here", "_law_some"] 2 S_of
theorem d_Lof (D : Dfn K mg "_law_of" s_Lof ["_law_jar_here", "_law_some"]) (B : Bl mg) (D_take : DTake P w K mg base) : DOf P w K mg base := by
  refine dfnOk D sc_Lof (fun ws mu P ⟨p, v, us, c, e, _⟩ => by rw [e]; rfl) (fun f cdv A outer s H E hr ws mu Pt ⟨p, v, us, c, e, hv, ne, l1, jar, c1, h⟩ => ?_)
  subst e
  have pos : 1 ≤ us.length := by cases us with | nil => exact absurd rfl ne | cons a r => simp
  refine sss_cons ?_
  refine ss_ret ?_
  refine se_ix ?_
  refine se_var (i := 1) rfl ?_  -- _law_some
  refine se_callD D_take (hr.mono (by decide)) ?_
  refine sa_cons ?_
  refine se_var (i := 0) rfl ?_  -- _law_jar_here
  refine sa_cons ?_
  refine se_len ?_ B.len
  refine se_var (i := 1) rfl ?_  -- _law_some
  rcases hv with rfl | ⟨a, rfl, hne, ha⟩ | ⟨z, rfl, hz, rfl⟩
  · refine sa_nil ?_
    refine ⟨p, _, c, rfl, by omega, by omega, jar, c1, fun r mu' r0 r1 j' e' => ?_⟩
    obtain ⟨x, hx, q⟩ := atI_lt r0 r1
    exact ⟨x, q, h _ _ hx j' e'⟩
  · refine ⟨us, ha, ?_⟩
    refine sa_nil ?_
    refine ⟨p, _, c, rfl, by omega, by omega, jar, c1, fun r mu' r0 r1 j' e' => ?_⟩
    obtain ⟨x, hx, q⟩ := atI_lt r0 r1
    exact ⟨us, x, e' _ _ hne ha, q, h _ _ hx j' e'⟩
  · rw [List.length_map] at pos l1
    refine ⟨hz, ?_⟩
    refine sa_nil ?_
    have el : (z.length : Int) = z.cps.toList.length := by rw [Array.length_toList]; rfl
    refine ⟨p, _, c, rfl, by omega, by omega, jar, c1, fun r mu' r0 r1 j' e' => ?_⟩
    obtain ⟨x, hx, q⟩ := atI_lt r0 (el ▸ r1)
    exact ⟨x, hz, q, h _ _ (List.mem_map.mpr ⟨x, hx, rfl⟩) j' e'⟩
end
end K1
set_option Elab.async false
set_option linter.all false
set_option maxRecDepth 100000
/-! enumerate by values: over a list, over a tuple. -/
namespace PySem
open Sem (wp)
def enumO (n : Addr) : Obj := { cls := .type "enumerate", data := .fields #[.none, .bool false, .ref n, rawInt 0, .none, .none] }
set_option maxHeartbeats 1100000 in
theorem enum1_meets {v : Value} {o : Obj} {Hh : Heap → Prop} (B : Begins v o Hh) : Meets (Builtin.«enumerate.__new__» ⟨[.type "enumerate", v], []⟩) fun _ R s => Hh s.heap ∧ R (.ok (.ret (.ref (s.heap.push o).objs.size))) { s with heap := (s.heap.push o).push (enumO s.heap.objs.size) } :=
  .of_wp fun pr ww A R sh hyp => by
    obtain ⟨hp, gl, dd, tk, os⟩ := sh
    obtain ⟨hy1, hy2⟩ := hyp
    have subE := sub_enumerate
    have itr : ∀ {A2 : Around} {E2 Q2 : Value → Shared → Prop}, Q2 (.ref hp.objs.size) ⟨hp.push o, gl, dd, tk, os⟩ → wpAny (model pr ww) A2 (pyIter v) Q2 E2 ⟨hp, gl, dd, tk, os⟩ := fun q => B.iter pr ww _ _ ⟨hp, gl, dd, tk, os⟩ _ hy1 q
    wp_walk using itr
    refine wpAny_stack_any fun stk => wpAny_pure ?_
    split
    · rename_i cc _ _ _ _ _
      cases (cc == Value.type "enumerate") <;> (wp_walk using itr) <;> exact ⟨_, rfl, hy2⟩
    · wp_walk using itr
      exact ⟨_, rfl, hy2⟩
theorem enum1_begins {prog : Program} {w : World} {A : Around} {E Q : Value → Shared → Prop} {s : Shared} {v : Value} {o : Obj} {Hh : Heap → Prop} (B : Begins v o Hh) (hs : Hh s.heap)
    (k : ∀ h', IsEnum h' (s.heap.objs.size + 1) s.heap.objs.size 0 .none → h'.get? s.heap.objs.size = some o → (∀ b ob, s.heap.get? b = some ob → h'.get? b = some ob) → Q (.ref (s.heap.objs.size + 1)) { s with heap := h' }) : wpAny (model prog w) A (call (.type "enumerate") [v]) Q E s := by
  refine callType_new F.called_enumerate (by decide) (F.typeCall_enumerate_1 _) (F.newCall_enumerate_1 _) (fun obj => F.args_object_init_2 obj _) F.entry_enumerate_new (enum1_meets B) ⟨hs, ?_⟩
  have sz : (s.heap.push o).objs.size = s.heap.objs.size + 1 := Heap.size_push ..
  have he : IsEnum ((s.heap.push o).push (enumO s.heap.objs.size)) (s.heap.objs.size + 1) s.heap.objs.size 0 .none := by
    have q := Heap.get?_push_size (s.heap.push o) (o := enumO s.heap.objs.size) rfl
    rw [sz] at q
    exact q
  show _ ∧ _
  rw [sz]
  exact ⟨⟨_, he, rfl⟩, k _ he (Heap.get?_push_of_some _ (Heap.get?_push_size _ B.free)) fun b ob x => Heap.get?_push_of_some _ (Heap.get?_push_of_some _ x)⟩
end PySem
namespace L2
open PySem
/-- the tuple at a, each item in a new pair behind its number -/
def IteT (K : PySem.W.Frag) (a : Addr) : It where
  go := fun i H => ∃ (xs : List V) (x : V), SqT K H a xs ∧ xs[i]? = some x
  yld := fun i H v H' => ∃ T x, v = .ref T ∧ H T = none ∧ H' = upd H T (.tup [.int (i : Nat), x]) ∧ ∀ xs, SqT K H a xs → xs[i]? = some x
  stop := fun i H => ∃ xs : List V, SqT K H a xs ∧ xs.length ≤ i
theorem turn_enumT {P : Program} {w : World} {K : PySem.W.Frag} {elts : List Expr} {kk : Nat} {tpos : Pos} (a e it : Addr) : Turn P w K (.Tuple elts kk tpos) (IteT K a) [e, it] e (fun i h => (∃ old, IsEnum h e it ((i : Nat) : Int) old) ∧ h.IsTupleIter it a i ∧ e ≠ it) where
  mem := by simp
  obj := fun i h ⟨⟨old, he⟩, ⟨o, ho, hc, hd⟩, _⟩ b hb => by
    rcases (by simpa using hb : b = e ∨ b = it) with rfl | rfl
    · exact ⟨_, he, fun v q => by cases q⟩
    · exact ⟨o, ho, fun v q => by rw [hd] at q; cases q⟩
  keep := fun i h h' ⟨⟨old, he⟩, hi, hne⟩ k => ⟨⟨old, k e (by simp) _ he⟩, hi.at fun o q => k it (by simp) o q, hne⟩
  item := by
    intro X hP hw hK hc i pins s σ H E I hf ⟨⟨old, he⟩, hit, hne⟩ ⟨xs, x, hq, hx⟩
    subst hP hw hK
    (obtain ⟨its, rv, p, hz⟩ := I.tuple hq; obtain ⟨u, hu, ru⟩ := rv.get hx)
    have pt : s.heap.IsTuple a its.toArray := p
    have hel : e < s.heap.objs.size ∧ it < s.heap.objs.size := ⟨Heap.lt_size he, let ⟨_, q, _⟩ := hit; Heap.lt_size q⟩
    obtain ⟨hel, hil⟩ := hel
    have hea : e ≠ a := fun z => by
      obtain ⟨o, ho, hcl, _⟩ := pt
      rw [← z] at ho
      have := Option.some.inj (he.symm.trans ho)
      rw [← this] at hcl
      injection hcl with q
      exact absurd q (by decide)
    have hia : a ≠ it := fun z => by
      obtain ⟨o, ho, hcl, _⟩ := pt
      obtain ⟨o', ho', hcl', _⟩ := hit
      rw [z] at ho
      have := Option.some.inj (ho.symm.trans ho')
      rw [← this, hcl] at hcl'
      injection hcl' with q
      exact absurd q (by decide)
    refine wpAny_pyNext_enum_itemD (Draws.tuple (A := X.A.in1) (show X.A.in1.handled = none from I.ok.hd hc) it a hia its.toArray) he ⟨hit, pt⟩ (by have := (List.getElem?_eq_some_iff.mp hu).1; simpa using this) hne (by simp [hne, hea]) fun y h' tk hy ho st' hT hsz hk => ?_
    have hy : u = y := by
      rw [List.getElem?_toArray, hu] at hy
      exact Option.some.inj hy
    subst hy
    refine ⟨_, rfl, wpAny_letOwnedTupleGo_enum (s := { s with heap := h', toks := tk + 1 }) ho fun h'' he' sb => ?_⟩
    have hT2 : h''.get? s.heap.objs.size = some { cls := .type "tuple", data := .seq #[.int i tk, u] } := (sb.2 _ (Nat.ne_of_gt hel)).trans hT
    have new : ObjOk X.prog X.w (upd H s.heap.objs.size (.tup [.int (i : Nat), x])) h'' s.heap.objs.size (.tup [.int (i : Nat), x]) := ⟨by show 2 ≤ sizeLine; decide, [.int i tk, u], .cons ⟨_, rfl⟩ (.cons ru .nil), ⟨_, hT2, rfl, _, rfl⟩⟩
    have J : Inv X pins σ (upd H s.heap.objs.size (.tup [.int (i : Nat), x])) { s with heap := h'', toks := tk + 1 } := I.turnedNew (ch := [e, it]) (fun b ob hb q => (sb.2 b (fun z => hb (by simp [z]))).trans (hk b ob (fun z => hb (by simp [z])) (fun z => hb (by simp [z])) q)) hf (Nat.le_refl _) new
    refine ⟨.ref s.heap.objs.size, _, J, rfl, ⟨_, x, rfl, I.hok.fresh (Nat.le_refl _), rfl, fun ys hy => by rw [I.tuple_inj hy hq]; exact hx⟩, ⟨⟨u, ?_⟩, st'.1.at fun o q => (sb.2 it (Ne.symm hne)).trans q, hne⟩, fun b hb => ?_⟩
    · rw [show ((i + 1 : Nat) : Int) = (i : Int) + 1 by omega]
      exact he'
    · have hlt : b < s.heap.objs.size := by rcases (by simpa using hb : b = e ∨ b = it) with z | z <;> rw [z] <;> assumption
      exact (upd_ne (Nat.ne_of_lt hlt)).trans (hf b hb).1
  done := by
    intro X hP hw hK hc i pins s σ H E I hf ⟨⟨old, he⟩, hit, hne⟩ ⟨xs, hq, hx⟩
    subst hP hw hK
    (obtain ⟨its, rv, p, hz⟩ := I.tuple hq; have pt : s.heap.IsTuple a its.toArray := p; obtain ⟨f0, f1, f2, f3, f4, f5⟩ := hf it (by simp))
    have no : its.toArray[i]? = none := by
      have := rv.length
      simp
      omega
    have DD : Draws X.prog X.w X.A.in1 it [it, a] 0 (fun _ _ => True) fun _ h => h.IsTupleIter it a i ∧ h.IsTuple a its.toArray :=
      { live := fun _ _ st => let ⟨o, ho, _⟩ := st.1; ⟨o, ho⟩
        frame := fun _ _ _ st hk => ⟨st.1.at fun o q => hk it (by simp) o q, st.2.at fun o q => hk a (by simp) o q⟩
        item := fun j _ _ _ hj => absurd hj (Nat.not_lt_zero j)
        done := fun _ _ _ st hE => wpAny_nextOf_tuple_end (show X.A.in1.handled = none from I.ok.hd hc) st.1 st.2 no hE }
    exact wpAny_pyNext_enum_endD DD he ⟨hit, pt⟩ fun h' eb => ⟨rfl, I.turned (t' := s.toks) (fun b ob hb q => eb b ob hb q) f0 f1 f3 f4 f5⟩
  self := fun _ _ _ _ _ st k => let ⟨⟨_, he⟩, _⟩ := st; wpAny_pyIter_enum he k
end L2
namespace L2
open PySem
def iEnumT (K : PySem.W.Frag) (ta : TA) : TI := fun σ H R => ta σ H fun vs H1 => ∃ a xs, vs = [.ref a] ∧ SqT K H1 a xs ∧ R (IteT K a) H1
theorem pi_enumT {X : Cx} {e : Expr} {ta : TA} {p pos tpos : Pos} {elts : List Expr} {kk : Nat} (hg : Gl X "enumerate") (hm : X.mg "enumerate" = none) (ha : PA X [e] ta) (hs : starEach [e] X.env = [(false, eval e X.env)] := by rfl) : PI X (.Tuple elts kk tpos) (.Call (.Name "enumerate" p) [e] [] pos) (iEnumT X.K ta) :=
  ⟨fun pins s σ H R I h => PyProof.Rows.Call_ (ld_blt I hg hm PyProof.Rows.boot_enumerate (PyProof.Rows.callWith_type1 (thn (ha.run pos pins s σ H _ I h) fun us s1 ⟨vs, H1, I1, r1, q1⟩ => by
    (obtain ⟨a, xs, ex, hq, q⟩ := q1; subst ex)
    obtain _ | ⟨r, rr⟩ := r1
    cases rr
    cases r
    obtain ⟨its, rv, p', hz⟩ := I1.tuple hq
    refine enum1_begins (begins_tuple a its.toArray) p' fun h' he hit hk => wpAny_pyIter_enum he ?_
    refine ⟨s1.heap.objs.size + 1, [s1.heap.objs.size + 1, s1.heap.objs.size], _, _, H1, rfl, I1.kept (t' := s1.toks) hk, turn_enumT a (s1.heap.objs.size + 1) s1.heap.objs.size, ⟨⟨.none, he⟩, ⟨_, hit, rfl, rfl⟩, Nat.succ_ne_self _⟩, fun b hb => ?_, q⟩
    have hle : s1.heap.objs.size ≤ b ∧ True := by
      refine ⟨?_, trivial⟩
      rcases (by simpa using hb : b = s1.heap.objs.size + 1 ∨ b = s1.heap.objs.size) with z | z <;> rw [z]
      · exact Nat.le_add_right _ _
      · exact Nat.le_refl _
    exact I1.fpOk hle.1 (I1.hok.fresh hle.1)) hs rfl))⟩
end L2
namespace Dv
open PySem L2
def enumW (ws : List W) : List W := ws.mapIdx fun i w => W.tup [.int (i : Nat), w]
theorem enumW_len (ws : List W) : (enumW ws).length = ws.length := by unfold enumW; simp
theorem enumW_get (ws : List W) (i : Nat) : (enumW ws)[i]? = (ws[i]?).map fun w => W.tup [.int (i : Nat), w] := by unfold enumW; simp
section
variable {X : Cx} {e a b c : Expr} {es : List Expr} {G : Gs} {mu mu' : Mu} {pos p : Pos} {P : PW1} {K : PySem.W.Frag} {H : Hp}
theorem itw_enumT {q : Addr} {xs : List V} {ws : List W} (m : HM K H mu) (s : SqT K H q xs) (d : DenAll K H ws xs) : ItW K (IteT K q) (enumW ws) (fun _ => True) mu H := by
  refine ⟨fun H' => SqT K H' q xs, fun i H1 v H2 => ∃ T x, v = .ref T ∧ H1 T = none ∧ H2 = upd H1 T (.tup [.int (i : Nat), x]) ∧ xs[i]? = some x, ⟨fun i H' hi h' => ?_, fun H' h' => ⟨xs, h', ?_⟩, fun i H' x H'' hi h' ⟨T, y, h1, h2, h3, h4⟩ => ⟨T, y, h1, h2, h3, h4 _ h'⟩⟩, fun mu' H' c m' _ => c.sqt m q xs s, fun i H1 v H2 mu' hi c m' _ ⟨T, x, hv, hT, hH, hx⟩ => ?_⟩
  · rw [enumW_len, d.length] at hi
    exact ⟨xs, xs[i], h', by simp [hi]⟩
  · rw [enumW_len, d.length]
    exact Nat.le_refl _
  · subst hv hH
    obtain ⟨w, h1, h2⟩ := (c.denAll m d).get hx
    obtain ⟨c2, m2⟩ := laid (o := .tup [.int (i : Nat), x]) m' hT
    exact ⟨.tup [.int (i : Nat), w], by rw [enumW_get, h1]; rfl, c2, m2, T, _, rfl, SqT.of upd_same, .int (i : Nat), [x], rfl, rfl, x, [], rfl, c2.den m' h2, rfl⟩
theorem itw_enumL {q : Addr} {ws : List W} (m : HM K H mu) (h : mu q = some (.lst ws)) : ItW K (Ite K q) (enumW ws) (fun mu' => mu' q = some (.lst ws)) mu H := by
  refine ⟨fun H' => ∃ ys, SqL K H' q ys ∧ DenAll K H' ws ys, fun i H1 v H2 => ∃ T x ys, v = .ref T ∧ H1 T = none ∧ H2 = upd H1 T (.tup [.int (i : Nat), x]) ∧ DenAll K H1 ws ys ∧ ys[i]? = some x, ⟨fun i H' hi ⟨ys, s, d'⟩ => ?_, fun H' ⟨ys, s, d'⟩ => ⟨ys, s, ?_⟩, fun i H' x H'' hi ⟨ys, s, d'⟩ ⟨T, y, h1, h2, h3, h4⟩ => ⟨T, y, ys, h1, h2, h3, d', h4 _ s⟩⟩, fun mu' H' c m' g => ?_, fun i H1 v H2 mu' hi c m' _ ⟨T, x, ys, hv, hT, hH, d', hx⟩ => ?_⟩
  · rw [enumW_len, d'.length] at hi
    exact ⟨ys, ys[i], s, by simp [hi]⟩
  · rw [enumW_len, d'.length]
    exact Nat.le_refl _
  · obtain ⟨ys, h1, h2⟩ := m' q _ g
    exact ⟨ys, SqL.of h1, h2⟩
  · subst hv hH
    obtain ⟨w, h1, h2⟩ := d'.get hx
    obtain ⟨c2, m2⟩ := laid (o := .tup [.int (i : Nat), x]) m' hT
    exact ⟨.tup [.int (i : Nat), w], by rw [enumW_get, h1]; rfl, c2, m2, T, _, rfl, SqT.of upd_same, .int (i : Nat), [x], rfl, rfl, x, [], rfl, c2.den m' h2, rfl⟩
theorem si_enumT {elts : List Expr} {kk : Nat} {tpos : Pos} {Post : List W → (Mu → Prop) → Mu → Prop} (h : SE X e G mu fun w mu1 => match w with | .tup ws => Post (enumW ws) (fun _ => True) mu1 | _ => False) (hm : X.mg "enumerate" = none) (hg : Gl X "enumerate" := by rfl) (hs : starEach [e] X.env = [(false, eval e X.env)] := by rfl) : SI X (.Tuple elts kk tpos) (.Call (.Name "enumerate" p) [e] [] pos) G mu Post :=
  SI.mk (pi_enumT hg hm (pa_cons peE pa_nil hs) hs) fun σ H R d m k => h σ H _ d m fun v w mu1 H1 h1 c1 d1 m1 => by
    cases w with
    | tup ws =>
      obtain ⟨q, xs, rfl, s, d2⟩ := d1
      exact ⟨q, xs, rfl, s, k _ _ _ _ _ h1 c1 m1 (itw_enumT m1 s d2)⟩
    | _ => exact h1.elim
theorem si_enumL {elts : List Expr} {kk : Nat} {tpos : Pos} {Post : List W → (Mu → Prop) → Mu → Prop} (h : SE X e G mu fun w mu1 => match w with | .m q => ∃ ws, mu1 q = some (.lst ws) ∧ Post (enumW ws) (fun mu' => mu' q = some (.lst ws)) mu1 | _ => False) (hm : X.mg "enumerate" = none) (hg : Gl X "enumerate" := by rfl) (hs : starEach [e] X.env = [(false, eval e X.env)] := by rfl) : SI X (.Tuple elts kk tpos) (.Call (.Name "enumerate" p) [e] [] pos) G mu Post :=
  SI.mk (pi_enum hg hm (pa_cons peE pa_nil hs) hs) fun σ H R d m k => h σ H _ d m fun v w mu1 H1 h1 c1 d1 m1 => by
    cases w with
    | m q =>
      obtain ⟨ws, h2, h3⟩ := h1
      obtain ⟨xs, hx, d2⟩ := m1 q _ h2
      have d1 : v = .ref q := d1
      subst d1
      exact ⟨q, xs, rfl, SqL.of hx, k _ _ _ _ _ h3 c1 m1 (itw_enumL m1 h2)⟩
    | _ => exact h1.elim
end
end Dv
set_option Elab.async false
set_option linter.all false
set_option maxRecDepth 100000
/-! Tuples put together, by values. -/
namespace Dv
open PySem L2
section
variable {X : Cx} {e a b c : Expr} {es : List Expr} {G : Gs} {mu mu' : Mu} {pos p : Pos} {P : PW1} {K : PySem.W.Frag} {H : Hp}
abbrev catTV (w1 w2 : W) (mu : Mu) (P : PW1) : Prop := match w1, w2 with | .tup us, .tup zs => us.length + zs.length ≤ sizeLine ∧ P (.tup (us ++ zs)) mu | _, _ => False
theorem catT_w : OpW X (rCatA X.K) catTV := fun w1 w2 x y mu H P Q dx dy m h k => by
  unfold catTV at h
  split at h
  · rename_i us zs
    obtain ⟨a, xs, rfl, s1, d1⟩ := dx
    obtain ⟨b, ys, rfl, s2, d2⟩ := dy
    have d12 := DenAll.append d1 d2
    refine ⟨a, b, xs, ys, rfl, rfl, s1, s2, by rw [← d1.length, ← d2.length]; exact h.1, fun z => ?_, fun _ z => ?_, fun _ _ q hq => ?_⟩
    · refine k.now h.2 ⟨b, ys, rfl, s2, ?_⟩ m
      rw [z] at d12
      exact d12
    · refine k.now h.2 ⟨a, xs, rfl, s1, ?_⟩ m
      rw [z, List.append_nil] at d12
      exact d12
    · obtain ⟨c2, m2⟩ := laid (o := .tup (xs ++ ys)) m hq
      exact k _ _ _ _ h.2 c2 ⟨q, _, rfl, SqT.of upd_same, c2.denAll m d12⟩ m2
  · exact h.elim
end
end Dv
set_option Elab.async false
set_option linter.all false
set_option maxRecDepth 100000
/-! dict(list(d.items())) by values. -/
namespace Dv
open PySem L2
section
variable {X : Cx} {e a b c : Expr} {es : List Expr} {G : Gs} {mu mu' : Mu} {pos p apos cpos : Pos} {P : PW1} {K : PySem.W.Frag} {H H' : Hp}
theorem sqt_grown (g : ∀ b o, H b = some o → H' b = some o) {a : Addr} {xs : List V} (s : SqT K H a xs) : SqT K H' a xs := by
  rcases s with (s | ⟨o, s⟩) | s
  · exact .inl (.inl (g _ _ s))
  · exact .inl (.inr ⟨o, g _ _ s⟩)
  · exact .inr s
theorem grown (m : HM K H mu) (g : ∀ b o, H b = some o → H' b = some o) : Chg mu H mu H' ∧ HM K H' mu := by
  refine ⟨⟨fun b o h _ => g b o h, fun b c h => ⟨c, h⟩, fun _ _ _ h => h⟩, fun a c h => ?_⟩
  obtain ⟨o, q⟩ := m.some h
  exact CellOk.mono (fun a xs s => sqt_grown g s) (m a c h) ((g _ _ q).trans q.symm)
def prsW (kvs : List (Key × W)) : List W := kvs.map fun q => .tup [kW q.1, q.2]
theorem den_prs : ∀ {ts : List Addr} {vs : List (Key × V)} {kvs : List (Key × W)}, Paired (fun (t : Addr) (q : Key × V) => H t = some (.tup [kV q.1, q.2])) ts vs → DKV K H kvs vs → DenAll K H (prsW kvs) (ts.map V.ref)
  | [], [], kvs, _, d => by
    have := congrArg List.length d.1
    cases kvs with
    | nil => exact rfl
    | cons x y => simp at this
  | t :: ts, q :: vs, kvs, .cons h r, d => by
    obtain ⟨k, v⟩ := q
    cases kvs with
    | nil => have := congrArg List.length d.1; simp at this
    | cons x y =>
      obtain ⟨j, w⟩ := x
      obtain ⟨v', vs', e, d1, d2⟩ := d.cons
      cases e
      exact ⟨.ref t, ts.map V.ref, rfl, ⟨t, [kV k, v], rfl, SqT.of h, kV k, [v], rfl, kV_den, v, [], rfl, d1, rfl⟩, den_prs r d2⟩
theorem se_listItems (h : SE X e G mu fun w mu1 => ∃ d kvs, w = .m d ∧ mu1 d = some (.dic kvs) ∧ ∀ l, mu1 l = none → P (.m l) (setM mu1 l (.lst (prsW kvs)))) (hc : X.calm = true) (hm : X.mg "list" = none) (hg : Gl X "list" := by rfl) (hv : bootBuiltins "list" = some (.type "list") := by decide +kernel)
    (hbase : attributeBase e "items" X.env (eval e X.env) = eval e X.env := by rfl) (hline : (apos.endLine == cpos.line) = true := by rfl)
    (hs : starEach [.Call (.Attribute e "items" apos) [] [] cpos] X.env = (false, eval (.Call (.Attribute e "items" apos) [] [] cpos) X.env) :: starEach [] X.env := by rfl) :
    SE X (.Call (.Name "list" p) [.Call (.Attribute e "items" apos) [] [] cpos] [] pos) G mu P :=
  SE.mk (LiI.pe_listItems hc peE hg hm hv hbase hline hs) fun σ H Q d m k => h σ H _ d m fun v w mu1 H1 h1 c1 d1 m1 => by
    obtain ⟨dd, kvs, rfl, hk, q⟩ := h1
    have d1 : v = .ref dd := d1
    subst d1
    obtain ⟨vs, hx, dk⟩ := m1 dd _ hk
    have dk : DKV X.K H1 kvs vs := dk
    refine ⟨dd, vs, rfl, hx, fun H' l ts g hl ht hlt hl' pr => ?_⟩
    obtain ⟨c2, m2⟩ := grown (K := X.K) m1 g
    have nl := m1.dom hl
    have dk2 : DKV X.K H' kvs vs := ⟨dk.1, DenAll.mono (fun a xs s => sqt_grown g s) _ dk.2⟩
    refine k _ _ _ _ (q l nl) (c1.trans ⟨fun b o hb n => g b o hb, fun b cc hb => ?_, fun b o hb n => ?_⟩) rfl fun a cc ha => ?_
    · by_cases z : b = l
      · subst z; exact ⟨_, setM_same⟩
      · rw [setM_ne z]; exact ⟨cc, hb⟩
    · rw [setM_ne (ne_of_none hb hl)]; exact n
    · by_cases z : a = l
      · subst z
        rw [setM_same] at ha
        cases ha
        exact ⟨_, hl', den_prs pr dk2⟩
      · rw [setM_ne z] at ha
        exact m2 a cc ha
/-- dict of a list of pairs -/
abbrev dcpV (ws : List W) (mu : Mu) (P : PW1) : Prop := match ws with | [.m l] => ∃ kvs, mu l = some (.lst (prsW kvs)) ∧ (kvs.map (·.1)).Nodup ∧ ∀ p, mu p = none → P (.m p) (setM mu p (.dic kvs)) | _ => False
theorem den_back : ∀ {kvs : List (Key × W)} {xs : List V}, DenAll K H (prsW kvs) xs → ∃ (ps : List Addr) (vs : List (Key × V)), xs = ps.map V.ref ∧ Paired (fun p (kv : Key × V) => SqT K H p [kV kv.1, kv.2]) ps vs ∧ DKV K H kvs vs
  | [], xs, d => ⟨[], [], d, .nil, rfl, rfl⟩
  | (j, w) :: r, xs, d => by
    obtain ⟨v, vs, rfl, ⟨t, ys, rfl, s, ya, yr, rfl, da, yb, yr2, rfl, db, hn⟩, dr⟩ := d
    obtain ⟨ps, vs', rfl, pr, dk⟩ := den_back dr
    cases hn
    have := kW_den da
    subst this
    exact ⟨t :: ps, (j, yb) :: vs', rfl, .cons s pr, DKV.mk db dk⟩
theorem dcp_w : CallW X (fun xs H Q => ∃ (a : Addr) (ps : List Addr) (kvs : List (Key × V)), xs = [.ref a] ∧ SqL X.K H a (ps.map V.ref) ∧ Paired (fun p kv => SqT X.K H p [kV kv.1, kv.2]) ps kvs ∧ ∀ p, H p = none → Q (.ref p) (upd H p (.dK (mergeK [] kvs)))) dcpV := fun ws vs mu H P Q d m h k => by
  unfold dcpV at h
  split at h
  · rename_i l
    obtain ⟨kvs, hl, hn, q⟩ := h
    obtain ⟨v, rfl, dv⟩ := d.one
    have dv : v = .ref l := dv
    subst dv
    obtain ⟨xs, hx, dx⟩ := m l _ hl
    obtain ⟨ps, vs, rfl, pr, dk⟩ := den_back dx
    refine ⟨l, ps, vs, rfl, SqL.of hx, pr, fun p hp => ?_⟩
    have em : mergeK [] vs = vs := by rw [mergeK_new vs [] (by rw [List.nil_append, ← dk.1]; exact hn)]; rfl
    rw [em]
    obtain ⟨c2, m2⟩ := laidC (o := .dK vs) (c := .dic kvs) m hp (newDic dk)
    exact k _ _ _ _ (q p (m.dom hp)) c2 rfl m2
  · exact h.elim
theorem se_dictC (h : SE X e G mu fun w mu1 => dcpV [w] mu1 P) (hc : X.calm = true) (hm : X.mg "dict" = none) (hv : bootBuiltins ("dict" : Str) = some (.type "dict") := by decide +kernel) (hg : Gl X "dict" := by rfl) (he : starEach [e] X.env = [(false, eval e X.env)] := by rfl) (hpl : (backTo pos (starEach [] X.env)).any (·.1) = false := by rfl) : SE X (.Call (.Name "dict" p) [e] [] pos) G mu P :=
  se_bty (call_dictP hc) dcp_w hm (sa_one h he) hv hg (by decide) (by decide) he hpl
end
end Dv
set_option Elab.async false
set_option linter.all false
set_option maxRecDepth 100000
/-! Texts joined, by values. -/
namespace Dv
open PySem L2
section
variable {X : Cx} {e a b c o : Expr} {es : List Expr} {G : Gs} {mu mu' : Mu} {pos p apos cpos : Pos} {P : PW1} {K : PySem.W.Frag} {H H' : Hp}
theorem se_join (h : SE X o G mu fun w mu1 => ∃ z, w = .str z ∧ SE X e G mu1 fun w2 mu2 => ∃ l, ∃ ys : List Str, w2 = .m l ∧ mu2 l = some (.lst (ys.map W.str)) ∧ (ys.map (·.length)).sum + ys.length * z.length ≤ 16777216 ∧ P (.str (Txt.join z ys)) mu2)
    (hs : starEach [e] X.env = [(false, eval e X.env)] := by rfl) (hbase : attributeBase o "join" X.env (eval o X.env) = eval o X.env := by rfl) (hline : (apos.endLine == pos.line) = true := by rfl) : SE X (.Call (.Attribute o "join" apos) [e] [] pos) G mu P :=
  SE.mk (pe_join peE peE hs hbase hline) fun σ H Q d m k => h σ H _ d m fun x w mu1 H1 ⟨z, e1, h1⟩ c1 d1 m1 => by
    subst e1
    refine ⟨⟨z, d1⟩, h1 σ H1 _ (c1.denG m d) m1 fun y w2 mu2 H2 ⟨l, ys, e2, hl, hz, q⟩ c2 d2 m2 => ?_⟩
    subst e2
    have d2 : y = .ref l := d2
    subst d2
    obtain ⟨xs, hx, dx⟩ := m2 l _ hl
    have := denAll_str dx
    subst this
    exact ⟨z, l, ys, d1, rfl, .inl (SqL.of hx), hz, (k.step (c1.trans c2)).now q rfl m2⟩
end
end Dv
set_option Elab.async false
set_option linter.all false
set_option maxRecDepth 100000
namespace K1
open PySem L2 Dv
/-- signs that names may have -/
def Low (z : Str) : Prop := ∀ c ∈ z.cps.toList, 97 ≤ c ∧ c ≤ 122
theorem joinL_nil : ∀ ys : List (List Nat), TL.joinL [] ys = ys.flatten
  | [] => rfl
  | [p] => by simp [TL.joinL]
  | p :: q :: r => by
    have := joinL_nil (q :: r)
    simp only [TL.joinL, this, List.nil_append, List.flatten_cons]
theorem join_cps (ys : List Str) : (Txt.join "" ys).cps.toList = (ys.map fun z => z.cps.toList).flatten := by
  rw [TL.join_eq]
  have := TL.tl_join "" ys
  rw [show TL.tl "" = [] from rfl, joinL_nil] at this
  exact this
def nameAt (z : Str) (s f k : Nat) : Str := cutS z none (some (s : Nat)) ++ ⟨#[97 + (f + 3 * k) % 26]⟩ ++ cutS z (some (s : Nat)) none
theorem str_app (x y : Str) : (x ++ y).cps.toList = x.cps.toList ++ y.cps.toList := by
  show (x.cps ++ y.cps).toList = _
  rw [Array.toList_append]
theorem nameAt_cps {z : Str} {s f k : Nat} (h : s ≤ z.length) : (nameAt z s f k).cps.toList = z.cps.toList.take s ++ (97 + (f + 3 * k) % 26) :: z.cps.toList.drop s := by
  have hl : z.cps.toList.length = z.length := by rw [Array.length_toList]; rfl
  have n0 : ¬ (s : Int) < 0 := by omega
  unfold nameAt
  rw [str_app, str_app]
  have e1 : (cutS z none (some (s : Nat))).cps.toList = z.cps.toList.take s := by
    unfold cutS
    simp [HT.sIx, Nat.min_eq_left h, n0]
  have e2 : (cutS z (some (s : Nat)) none).cps.toList = z.cps.toList.drop s := by
    unfold cutS
    simp [HT.sIx, Nat.min_eq_left h, n0]
    exact List.take_of_length_le (by rw [List.length_drop, hl]; exact Nat.le_refl _)
  rw [e1, e2, List.append_assoc]
  rfl
theorem nameAt_ok {z : Str} {s f k : Nat} (h : s ≤ z.length) (hz : z.length ≤ 7) (lo : Low z) : NmOk (nameAt z s f k) := by
  have hl : z.cps.toList.length = z.length := by rw [Array.length_toList]; rfl
  have len : (nameAt z s f k).length = z.length + 1 := by
    have : (nameAt z s f k).length = (nameAt z s f k).cps.toList.length := by rw [Array.length_toList]; rfl
    rw [this, nameAt_cps h, List.length_append, List.length_cons, List.length_take, List.length_drop, hl]
    omega
  refine ⟨by omega, by omega, fun c hc => ?_⟩
  rw [nameAt_cps h] at hc
  rcases List.mem_append.mp hc with q | q
  · exact lo c (List.mem_of_mem_take q)
  · rcases List.mem_cons.mp q with q | q
    · subst q
      omega
    · exact lo c (List.mem_of_mem_drop q)
theorem nameAt_inj {z : Str} {s f k k' : Nat} (h : s ≤ z.length) (hk : k < 26) (hk' : k' < 26) (e : nameAt z s f k = nameAt z s f k') : k = k' := by
  have := congrArg (fun x : Str => x.cps.toList) e
  simp only [nameAt_cps h] at this
  have := List.append_cancel_left this
  have := (List.cons.inj this).1
  omega
section
variable {P : Program} {w : World} {K : PySem.W.Frag} {mg : Str → Option Value} {base : Heap}
abbrev s_Lnames : Stmt := top 45
theorem sc_Lnames : FnScope ["_law_jar_here", "_law_many", "_law_small", "_law_stem", "_law_turn", "_law_spot", "_law_first", "_law_k"] ["_law_jar_here", "_law_many"] (defScope s_Lnames) := ⟨rfl, rfl, rfl, by decide +kernel, rfl, by decide +kernel, by decide +kernel⟩
def S_names : SpW := fun ws mu P => ∃ p m c, ws = [.m p, .int ((m : Nat) : Int)] ∧ m ≤ 26 ∧ JarOk mu p c ∧ c + 20 < 10000 ∧ ∀ y ns mu', mu y = none → mu' y = some (.lst (stW ns)) → ns.length = m → ns.Nodup → (∀ n ∈ ns, NmOk n) → JarOk mu' p (c + 10) → ExtBut p mu mu' → P (.m y) mu'
theorem alpha_at (r : Nat) (h : r < 26) : atI ("abcdefghijklmnopqrstuvwxyz" : Str).cps.toList (r : Int) = some (97 + r) := by
  have hd : ∀ r, r < 26 → ("abcdefghijklmnopqrstuvwxyz" : Str).cps.toList[r]? = some (97 + r) := by decide +kernel
  exact atI_nat' (hd r h)
theorem d_Lnames (D : Dfn K mg "_law_names" s_Lnames ["_law_jar_here", "_law_many"]) (B : Bl mg) (D_take : DTake P w K mg base) (D_of : DOf P w K mg base) : DefOk P w K mg base "_law_names" ["_law_jar_here", "_law_many"] 3 S_names := by
  refine dfnOk D sc_Lnames (fun ws mu P ⟨p, m, c, e, _⟩ => by rw [e]; rfl) (fun f cdv A outer s H E hr ws mu Pt ⟨p, m, c, e, m26, jar, c1, h⟩ => ?_)
  subst e
  refine sss_cons ?_
  refine ss_asg ?_
  refine se_str ?_  -- 'abcdefghijklmnopqrstuvwxyz'
  refine sg_name (i := 2) ?_ sc_Lnames.nd  -- _law_small =
  refine sss_cons ?_
  refine ss_asg ?_
  refine se_join ?_
  refine se_str ?_  -- ''
  refine ⟨"", rfl, ?_⟩
  refine se_lc (own := [("_law_turn", 4)]) (.nm 4) rfl sc_Lnames.nd (blkOk_by (N := ["_law_jar_here", "_law_many", "_law_small", "_law_stem", "_law_turn", "_law_spot", "_law_first", "_law_k"]) (sc := defScope s_Lnames) (by decide +kernel)) rfl (fun _ _ _ _ _ => (pg_name (i := 4) sc_Lnames.nd rfl (Or.inl rfl))) (by intro _; rfl) ?_
  refine si_range ?_ B.range
  refine se_callD D_of (hr.mono (by decide)) ?_
  refine sa_cons ?_
  refine se_var (i := 0) rfl ?_  -- _law_jar_here
  refine sa_cons ?_
  refine se_lst ?_
  refine sa_cons (se_int (sa_cons (se_int (sa_cons (se_int (sa_cons (se_int (sa_cons (se_int (sa_nil ?_))))))))))
  refine ⟨by decide, fun q nq => ?_⟩
  refine sa_nil ?_
  have pq : p ≠ q := jar.ne nq
  refine ⟨p, .m q, _, c, rfl, .inr (.inl ⟨q, rfl, Ne.symm pq, setM_same⟩), by simp, by decide, jar.set pq, by omega, fun u mu1 hu j1 e1 => ?_⟩
  have hj : ∃ j : Nat, u = .int (j : Nat) ∧ j ≤ 7 := by
    simp only [List.mem_cons, List.not_mem_nil, or_false] at hu
    rcases hu with rfl | rfl | rfl | rfl | rfl
    · exact ⟨0, rfl, by decide⟩
    · exact ⟨0, rfl, by decide⟩
    · exact ⟨1, rfl, by decide⟩
    · exact ⟨3, rfl, by decide⟩
    · exact ⟨7, rfl, by decide⟩
  obtain ⟨n, rfl, n7⟩ := hj
  have E1 : ExtBut p mu mu1 := (ExtBut.refl.own nq).trans e1
  refine ⟨by omega, by omega, ?_⟩
  intro Dd hD
  rw [Int.toNat_natCast]
  refine ⟨fun i acc mu' => ∃ zs : List Str, acc = zs.map W.str ∧ zs.length = i ∧ (∀ z ∈ zs, z.length = 1 ∧ Low z) ∧ JarOk mu' p (c + 1 + i) ∧ ExtBut p mu mu', ⟨[], rfl, rfl, by simp, j1, E1⟩, fun _ _ _ _ _ => trivial, fun i w acc mu' hw ⟨zs, ea, el, ez, jr, ex⟩ => ?_, fun acc mu' ⟨zs, ea, el, ez, jr, ex⟩ => ?_⟩
  · have hi : i < n := by have := (List.getElem?_eq_some_iff.mp hw).1; simpa using this
    refine ⟨by rw [ea, List.length_map, el]; exact Nat.lt_of_lt_of_le (by omega : i < 10) (by decide), _, rfl, fun s H C cl fp => ?_⟩
    refine se_callD D_of (hr.mono (by decide)) ?_
    refine sa_cons ?_
    refine se_var (i := 0) rfl ?_  -- _law_jar_here
    refine sa_cons ?_
    refine se_var (i := 2) rfl ?_  -- _law_small
    refine sa_nil ?_
    refine ⟨p, _, _, _, rfl, .inr (.inr ⟨_, rfl, by decide, rfl⟩), by decide, by decide, jr, by omega, fun u mu2 hu j2 e2 => ?_⟩
    obtain ⟨cc, hcc, rfl⟩ := List.mem_map.mp hu
    refine ⟨zs ++ [⟨#[cc]⟩], by rw [ea, List.map_append]; rfl, by rw [List.length_append, el]; rfl, fun z hz => ?_, j2.mono (by omega), ex.trans e2⟩
    rcases List.mem_append.mp hz with hz | hz
    · exact ez z hz
    · rw [List.mem_singleton] at hz
      subst hz
      refine ⟨rfl, fun x hx => ?_⟩
      have hx : x ∈ [cc] := hx
      rw [List.mem_singleton] at hx
      subst hx
      have hd : ∀ x ∈ ("abcdefghijklmnopqrstuvwxyz" : Str).cps.toList, 97 ≤ x ∧ x ≤ 122 := by decide +kernel
      exact hd x hcc
  · rw [List.length_map, List.length_range] at el
    subst ea
    have sm : ∀ l : List Str, (∀ z ∈ l, z.length = 1) → (l.map (·.length)).sum = l.length := fun l => by
      induction l with
      | nil => intro _; rfl
      | cons x r ih =>
        intro hx
        rw [List.map_cons, List.sum_cons, ih fun z hz => hx z (by simp [hz]), hx x (by simp), List.length_cons, Nat.add_comm]
    have s1 := sm zs fun z hz => (ez z hz).1
    refine ⟨Dd, zs, rfl, setM_same, by rw [s1]; show zs.length + zs.length * 0 ≤ _; omega, ?_⟩
    refine sg_name (i := 3) ?_ sc_Lnames.nd  -- _law_stem =
    have hst : ∃ st, st = Txt.join "" zs := ⟨_, rfl⟩
    obtain ⟨st, hst⟩ := hst
    rw [← hst]
    have lo : Low st := fun x hx => by
      rw [hst, join_cps] at hx
      obtain ⟨l, hl, hx⟩ := List.mem_flatten.mp hx
      obtain ⟨z, hz, rfl⟩ := List.mem_map.mp hl
      exact (ez z hz).2 x hx
    have stl : st.length ≤ 7 := by
      have : st.length = st.cps.toList.length := by rw [Array.length_toList]; rfl
      rw [this, hst, join_cps, List.length_flatten, List.map_map]
      have e3 : (List.map (List.length ∘ fun z : Str => z.cps.toList) zs) = zs.map (·.length) := List.map_congr_left fun z _ => by
        show z.cps.toList.length = z.length
        rw [Array.length_toList]
        rfl
      rw [e3, s1]
      omega
    have muD : mu Dd = none := by
      cases hh : mu Dd with
      | none => rfl
      | some cc =>
        have := E1 Dd cc (fun z => by
          obtain ⟨_, _, _, g, _⟩ := j1.ex
          rw [z] at hD
          rw [hD] at g
          cases g) hh
        rw [hD] at this
        cases this
    have pD : p ≠ Dd := fun z => by
      obtain ⟨_, _, _, g, _⟩ := j1.ex
      rw [z, hD] at g
      cases g
    refine sss_cons ?_
    refine ss_asg ?_
    refine se_tup ?_
    refine sa_cons ?_
    refine se_callD D_take (hr.mono (by decide)) ?_
    refine sa_cons ?_
    refine se_var (i := 0) rfl ?_  -- _law_jar_here
    refine sa_cons ?_
    refine se_bin op_Add Add_w ?_
    refine se_len ?_ B.len
    refine se_var (i := 3) rfl ?_  -- _law_stem
    refine ⟨Nat.le_trans stl (by decide), ?_⟩
    refine se_int ?_  -- 1
    show SA _ _ _ _ _
    refine sa_nil ?_
    refine ⟨p, _, c + 1 + 7, rfl, by omega, by omega, (jr.mono (by rw [List.length_map, List.length_range]; omega)).set pD, by omega, fun sp mu2 sp0 sp1 j2 e2 => ?_⟩
    obtain ⟨sp, rfl⟩ : ∃ k : Nat, sp = k := ⟨sp.toNat, by omega⟩
    refine sa_cons ?_
    refine se_callD D_take (hr.mono (by decide)) ?_
    refine sa_cons ?_
    refine se_var (i := 0) rfl ?_  -- _law_jar_here
    refine sa_cons ?_
    refine se_int ?_  -- 26
    refine sa_nil ?_
    refine ⟨p, _, _, rfl, by decide, by decide, j2, by omega, fun fi mu3 f0 f1 j3 e3 => ?_⟩
    obtain ⟨fi, rfl⟩ : ∃ k : Nat, fi = k := ⟨fi.toNat, by omega⟩
    have sple : sp ≤ st.length := by omega
    refine sa_nil ?_
    refine ⟨by show 2 ≤ sizeLine; decide, ?_⟩
    refine sg_tup (sgs_cons (sg_name (i := 5) (sgs_cons (sg_name (i := 6) (sgs_nil ?_) sc_Lnames.nd)) sc_Lnames.nd))
    refine sss_cons ?_
    refine ss_ret ?_
    refine se_lc (own := [("_law_k", 7)]) (.nm 7) rfl sc_Lnames.nd (blkOk_by (N := ["_law_jar_here", "_law_many", "_law_small", "_law_stem", "_law_turn", "_law_spot", "_law_first", "_law_k"]) (sc := defScope s_Lnames) (by decide +kernel)) rfl (fun _ _ _ _ _ => (pg_name (i := 7) sc_Lnames.nd rfl (Or.inl rfl))) (by intro _; rfl) ?_
    refine si_range ?_ B.range
    refine se_var (i := 1) rfl ?_  -- _law_many
    refine ⟨by omega, by omega, ?_⟩
    rw [Int.toNat_natCast]
    refine lc_pure (fun w => match w with | .int k => .str (nameAt st sp fi k.toNat) | _ => .non) (fun _ _ => trivial) (by rw [List.length_map, List.length_range]; exact Nat.le_trans m26 (by decide)) ?_ InBlk.mono ?_
    · intro w mu' hw he
      obtain ⟨k, hk, rfl⟩ := List.mem_map.mp hw
      have hk := List.mem_range.mp hk
      refine ⟨_, rfl, fun s H C cl fp => ?_⟩
      have cl0 : ∀ lo hi, (cutS st lo hi).length ≤ 7 := fun lo hi => by
        have : (cutS st lo hi).length = (cutS st lo hi).cps.toList.length := by rw [Array.length_toList]; rfl
        rw [this]
        unfold cutS
        simp only [List.length_take, List.length_drop]
        have : st.cps.toList.length = st.length := by rw [Array.length_toList]; rfl
        omega
      refine se_bin op_add_str cat_w ?_
      refine se_bin op_add_str cat_w ?_
      refine se_slTo ?_  -- _law_stem[:_law_spot]
      refine se_var (i := 3) rfl ?_  -- _law_stem
      refine se_var (i := 5) rfl ?_  -- _law_spot
      refine ⟨Nat.le_trans stl (by decide), ?_⟩
      refine se_ix ?_
      refine se_var (i := 2) rfl ?_  -- _law_small
      refine se_bin op_Mod Mod_w ?_
      refine se_intC ?_ B.int
      refine se_bin op_Add Add_w ?_
      refine se_var (i := 6) rfl ?_  -- _law_first
      refine se_bin op_Mult Mult_w ?_
      refine se_int ?_  -- 3
      refine se_var (i := 7) rfl ?_  -- _law_k
      refine ⟨cmulW 2 10 (by decide) (by omega) (by decide) (by decide) (by decide), ?_⟩
      refine se_int ?_  -- 26
      refine ⟨by decide, ?_⟩
      have er : ((fi : Int) + 3 * (k : Int)) % 26 = (((fi + 3 * k) % 26 : Nat) : Int) := by omega
      refine ⟨97 + (fi + 3 * k) % 26, by decide, by rw [er]; exact alpha_at _ (by omega), ?_⟩
      have l1 := cl0 none (some (sp : Int))
      have l2 := cl0 (some (sp : Int)) none
      refine ⟨by show (cutS st none (some (sp : Int))).length + 1 ≤ sizeLine; exact Nat.le_trans (by omega : _ ≤ 8) (by decide), ?_⟩
      refine se_slFrom ?_  -- _law_stem[_law_spot:]
      refine se_var (i := 3) rfl ?_  -- _law_stem
      refine se_var (i := 5) rfl ?_  -- _law_spot
      refine ⟨Nat.le_trans stl (by decide), ?_⟩
      refine ⟨?_, rfl, Ext.refl⟩
      have : (cutS st none (some (sp : Int)) ++ (⟨#[97 + (fi + 3 * k) % 26]⟩ : Str)).length = (cutS st none (some (sp : Int))).length + 1 := by
        have hl : ∀ x : Str, x.length = x.cps.toList.length := fun x => by rw [Array.length_toList]; rfl
        rw [hl, str_app, List.length_append, ← hl]
        rfl
      rw [this]
      exact Nat.le_trans (by omega : _ ≤ 15) (by decide)
    · intro Y mu' hY he he2
      have em : ((List.range m).map fun i => W.int ((i : Nat) : Int)).map (fun w => match w with | .int k => .str (nameAt st sp fi k.toNat) | _ => W.non) = stW ((List.range m).map (nameAt st sp fi)) := by
        unfold stW
        rw [List.map_map, List.map_map]
        rfl
      rw [em]
      have E3 : ExtBut p mu mu3 := ((ex.own muD).trans e2).trans e3
      have muY : mu Y = none := by
        cases hh : mu Y with
        | none => rfl
        | some cc =>
          have := E3 Y cc (fun z => (j3.ne hY) z.symm) hh
          rw [hY] at this
          cases this
      refine h Y _ _ muY setM_same (by rw [List.length_map, List.length_range]) ?_ ?_ (((j3.ext he).mono (by omega)).set (j3.ne hY)) ((E3.trans (Ext.but he)).own muY)
      · rw [List.Nodup, List.pairwise_map]
        refine List.Pairwise.imp_of_mem (fun {a b} ha hb hne e => hne ?_) List.nodup_range
        exact nameAt_inj sple (by have := List.mem_range.mp ha; omega) (by have := List.mem_range.mp hb; omega) e
      · intro n hn
        obtain ⟨k, hk, rfl⟩ := List.mem_map.mp hn
        exact nameAt_ok sple stl lo
end
end K1
set_option Elab.async false
set_option linter.all false
set_option maxRecDepth 100000
/-! set(xs) of texts, any number, and its len. -/
namespace TxSet
open PyProof.Rows PySem.Spec PySem
/-- the texts once each, in the order of their first place -/
def oncePut (seen : List Str) (x : Str) : List Str := if x ∈ seen then seen else seen ++ [x]
def once (xs : List Str) : List Str := xs.foldl oncePut []
theorem once_take {xs : List Str} {i : Nat} {x : Str} (h : xs[i]? = some x) : once (xs.take (i + 1)) = oncePut (once (xs.take i)) x := by
  unfold once
  rw [List.take_add_one, h, List.foldl_append]
  rfl
theorem once_mem : ∀ (xs acc : List Str) (y : Str), y ∈ xs.foldl oncePut acc ↔ y ∈ acc ∨ y ∈ xs
  | [], acc, y => by simp
  | x :: xs, acc, y => by
    rw [List.foldl_cons, once_mem xs]
    unfold oncePut
    by_cases h : x ∈ acc
    · rw [if_pos h, List.mem_cons]
      constructor
      · rintro (q | q)
        · exact .inl q
        · exact .inr (.inr q)
      · rintro (q | rfl | q)
        · exact .inl q
        · exact .inl h
        · exact .inr q
    · rw [if_neg h, List.mem_append, List.mem_singleton, List.mem_cons]
      constructor
      · rintro ((q | q) | q)
        · exact .inl q
        · exact .inr (.inl q)
        · exact .inr (.inr q)
      · rintro (q | q | q)
        · exact .inl (.inl q)
        · exact .inl (.inr q)
        · exact .inr q
theorem once_len (xs acc : List Str) : (xs.foldl oncePut acc).length ≤ acc.length + xs.length := by
  induction xs generalizing acc with
  | nil => simp
  | cons x xs ih =>
    have := ih (oncePut acc x)
    have h2 : (oncePut acc x).length ≤ acc.length + 1 := by unfold oncePut; split <;> simp
    rw [List.foldl_cons, List.length_cons]
    omega
theorem once_nodup : ∀ (xs acc : List Str), (acc ++ xs).Nodup → xs.foldl oncePut acc = acc ++ xs
  | [], acc, _ => by simp
  | x :: xs, acc, h => by
    have hn : x ∉ acc := fun z => by
      rw [List.nodup_append] at h
      exact h.2.2 x z x (by simp) rfl
    rw [List.foldl_cons]
    unfold oncePut
    rw [if_neg hn]
    have := once_nodup xs (acc ++ [x]) (by simpa using h)
    rw [show (fun seen x => if x ∈ seen then seen else seen ++ [x]) = oncePut from rfl, this]
    simp
def inOnce (xs : List Str) (y : Str) : Bool := decide (y ∈ once xs)
section
variable {pr : Program} {ww : World} {A : Around} {R : Result → Shared → Prop} {I D : Addr} {fp wr : List Addr} {G : Array GenState → Array GenState → Prop} {m : Nat} {P : Nat → Value → Prop} {St : Nat → Shared → Prop}
theorem fillTx (Wk : WalksS pr ww A.in1 I fp wr G m P St) (hD : D ∉ fp) (xs : List Str) (hm : xs.length = m) (hb : m + 1 < scanBound) (hP : ∀ i v, P i v → ∃ x t, xs[i]? = some x ∧ v = .str x t) :
    ∀ (left i : Nat) (sh : Shared), m - i = left → i ≤ m → St i sh → sh.heap.SetOf (strKind pr ww) D (inOnce (xs.take i)) (once (xs.take i)).length →
      (∀ sh2, Moved (D :: wr) G sh sh2 → sh2.heap.SetOf (strKind pr ww) D (inOnce xs) (once xs).length → R (.ok (.ret .none)) sh2) → codeAny (model pr ww) A (.builtin "set.update.loop" ⟨[.ref D, .ref I], []⟩) R sh := by
  have hDw : D ∉ wr := fun z => hD (Wk.sub _ z)
  have up : ∀ b ∈ wr, b ∈ D :: wr := fun b z => List.mem_cons_of_mem _ z
  intro left
  induction left with
  | zero =>
    intro i sh h0 hi st hS fin
    have e : i = m := by omega
    subst e
    (refine codeAny_builtin F.entry_set_update_loop ?_; rw [Around.under_plainId F.plain_set_update_loop _])
    show wpAny _ A.in1 (pyNext (.ref I) >>= _) _ _ sh
    refine wpAny_bind (Wk.done sh _ _ st fun sh2 mv => ?_)
    show wpAny _ A.in1 (ret Value.none) _ _ sh2
    rw [← hm, List.take_length] at hS
    exact wpAny_pure (fin sh2 (mv.mono up) (let ⟨o, es, ep, t, ho, rest⟩ := hS; ⟨o, es, ep, t, mv.heap D _ hDw ho, rest⟩))
  | succ left ih =>
    intro i sh h0 hi st hS fin
    have lt : i < m := by omega
    (refine codeAny_builtin F.entry_set_update_loop ?_; rw [Around.under_plainId F.plain_set_update_loop _])
    show wpAny _ A.in1 (pyNext (.ref I) >>= _) _ _ sh
    refine wpAny_bind (Wk.item i sh _ _ lt st fun v sh2 hv st2 mv => ?_)
    obtain ⟨x, t, hx, rfl⟩ := hP i v hv
    have hS2 : sh2.heap.SetOf (strKind pr ww) D (inOnce (xs.take i)) (once (xs.take i)).length := let ⟨o, es, ep, tb, ho, rest⟩ := hS; ⟨o, es, ep, tb, mv.heap D _ hDw ho, rest⟩
    show wpAny _ A.in1 (holding [Value.str x t] (setAdd D (.str x t)) >>= _) _ _ sh2
    (refine wpAny_bind (wpAny_holding ?_); unfold setAdd)
    refine wpAny_holding (wpAny_bind ((strKind pr ww).pyHash (k := x) (strKind_is _ _ _ _) ?_))
    have l1 : (once (xs.take i)).length ≤ i := by
      have := once_len (xs.take i) []
      rw [List.length_take] at this
      unfold once
      simp at this
      omega
    refine wpAny_setAddHashed_of (knd := strKind pr ww) (s := { sh2 with toks := sh2.toks + 1 }) (strKind_is _ _ _ _) rfl hS2 (by omega) fun h3 same hS3 => ?_
    have hS4 : h3.SetOf (strKind pr ww) D (inOnce (xs.take (i + 1))) (once (xs.take (i + 1))).length := by
      rw [once_take hx]
      refine SetOf_congr hS3 (fun y => ?_) ?_
      · unfold inOnce
        rw [once_take hx]
        unfold oncePut
        by_cases h : x ∈ once (xs.take i)
        · rw [if_pos h]
          by_cases e : y = x
          · subst e; simp [h]
          · simp [e]
        · rw [if_neg h]
          by_cases e : y = x
          · subst e; simp
          · simp [e]
      · unfold oncePut inOnce
        by_cases h : x ∈ once (xs.take i)
        · simp [h]
        · simp [h]
    refine wpAny_pure ⟨plainId_quiet F.plain_set_update_loop _, ih (i + 1) _ (by omega) lt (Wk.frame _ sh2 _ _ st2 (Nat.le_succ _) fun b z o e => (same.2 b fun q : b = D => hD (q ▸ z)).trans e) hS4 fun sh3 mv3 hS5 => fin sh3 (Moved.trans Wk.gtrans ((mv.mono up).then_heap (Nat.le_succ _) fun b o z e => (same.2 b fun q : b = D => z (by rw [q]; exact List.mem_cons_self)).trans e) mv3) hS5⟩
end
end TxSet

namespace TxSet
open PyProof.Rows PySem.Spec PySem
abbrev bare (led : Bool) : Obj := { cls := .type "set", dict := none, data := .set #[] 0 (.fresh 0 0 led) }
section
variable {pr : Program} {ww : World} {A : Around} {E : Value → Shared → Prop} {sh : Shared}
set_option maxHeartbeats 3300000 in
theorem newTxL {ad : Addr} {its : Array Value} {xs : List Str} {Q : Value → Shared → Prop} (noExc : A.handled = none) (hseq : sh.heap.IsList ad its) (tx : StrsAre its.toList xs) (few : its.size + 1 < scanBound)
    (fin : ∀ (h2 : Heap) (t2 : Nat), h2.SetOf (strKind pr ww) sh.heap.objs.size (inOnce xs) (once xs).length → (∀ b o, b < sh.heap.objs.size → sh.heap.get? b = some o → h2.get? b = some o) → Q (.ref sh.heap.objs.size) { sh with heap := h2, toks := t2 }) : wpAny (model pr ww) A (call (.type "set") [.ref ad]) Q E sh := by
  obtain ⟨cc, rest, mro⟩ := F.called_set.mro
  have made := F.called_set.made
  have subS := F.called_set.sub
  (refine wpAny_call (codeAny_of_tree ?_); show wpAny _ _ (callAny (.type "set") _) _ _ sh; refine wpAny_pure ⟨Code.quiet_builtin _ (by decide +kernel), codeAny_builtin F.entry_type_call ?_⟩)
  rw [Around.under_plain (weight_type_call_type "set" [.ref ad] []) rfl]
  have n1 := F.called_set.notType
  have n2 := F.called_set.canCreate
  have n3 := F.typeCall_set_1 (.ref ad)
  repeat any_goals first | assumption | wp_step
  refine codeAny_mono (code_set_new_1 (.ref ad) (E := E) (Q₁ := fun ob sh1 => ∃ led : Bool, ob = .ref sh.heap.objs.size ∧ sh1 = { sh with heap := sh.heap.push (bare led) }) fun led => ⟨led, rfl, rfl⟩) fun r sh1 hr => ?_
  rcases r with ex | fl
  · exact hr
  cases fl with
  | ret ob =>
    obtain ⟨led, rfl, rfl⟩ := hr
    have at0 : (sh.heap.push (bare led)).get? sh.heap.objs.size = some (bare led) := Heap.get?_push_size _ rfl
    have ty0 : Shared.TypeIs { sh with heap := sh.heap.push (bare led) } (.ref sh.heap.objs.size) "set" := ⟨_, at0, rfl⟩
    have in1 := F.called_set.init.lookup
    have in2 := F.called_set.init.bind (.ref sh.heap.objs.size)
    repeat any_goals first | assumption | wp_step
    refine codeAny_mono (codeAny_call_builtin (R := wants (fun r sh2 => r = .none ∧ ∃ h2 t2, sh2 = { sh with heap := h2, toks := t2 } ∧ h2.SetOf (strKind pr ww) sh.heap.objs.size (inOnce xs) (once xs).length ∧ (∀ b o, b < sh.heap.objs.size → sh.heap.get? b = some o → h2.get? b = some o)) E) F.called_set.init.plain F.entry_set_init (check_set_init_1 ty0 ?_)) fun r2 sh2 hr2 => ?_
    · obtain ⟨⟨oc, odt, oda, osl⟩, hol, hcl, nl, hdl⟩ := hseq
      simp only at hcl hdl
      subst hcl hdl
      have hol2 : (sh.heap.push (bare led)).get? ad = some { cls := .type "list", dict := odt, data := .seq its nl, slots := osl } := Heap.get?_push_of_some _ hol
      have sub1 := PySem.F.sub_list_set
      have sub2 := PySem.F.sub_list_frozenset
      have neD : (Value.type "list" == Value.type "dict") = false := by decide
      have seq2 : (sh.heap.push (bare led)).IsList ad its := ⟨_, hol2, rfl, nl, rfl⟩
      (unfold Builtin.«set.__init__» noKeywords Builtin.Frozenset.updateFrom; generalize ePI : pyIter = PI)
      wp_walk
      subst ePI
      refine wpAny_pyIter_list seq2 (wpAny_bind (wpAny_runValue ?_))
      have adLt : ad < sh.heap.objs.size := Heap.lt_size hol
      have noExc3 : A.in1.in1.in1.handled = none := by simp [noExc]
      have apart : ad ≠ (sh.heap.push (bare led)).objs.size := by rw [Heap.size_push]; exact Nat.ne_of_lt (Nat.lt_succ_of_lt adLt)
      have out : sh.heap.objs.size ∉ [(sh.heap.push (bare led)).objs.size, ad] := by
        rw [Heap.size_push]
        simp only [List.mem_cons, List.mem_singleton, List.not_mem_nil, or_false, not_or]
        exact ⟨Nat.ne_of_lt (Nat.lt_succ_self _), Nat.ne_of_gt adLt⟩
      have lenX : xs.length = its.size := by rw [← StrsAre.len_eq tx, Array.length_toList]
      have each : ∀ (i : Nat) (v : Value), its[i]? = some v → ∃ x t, xs[i]? = some x ∧ v = .str x t := fun i v hv => by
        have il : i < xs.length := by rw [lenX]; exact (Array.getElem?_eq_some_iff.mp hv).1
        obtain ⟨t, e⟩ := SS.strs_at tx i v (by rw [Array.getElem?_toList]; exact hv)
        refine ⟨xs[i], t, List.getElem?_eq_getElem il, ?_⟩
        rw [e, List.getD_eq_getElem?_getD, List.getElem?_eq_getElem il]
        rfl
      refine fillTx ((Walks.list noExc3 _ ad apart its).toS) out xs lenX few each (its.size - 0) 0 _ (by omega) (Nat.zero_le _) ⟨⟨_, Heap.get?_push_size _ rfl, rfl, rfl⟩, seq2.push _⟩ ?begin ?after
      case begin =>
        have at1 : ((sh.heap.push (bare led)).push { cls := .type "list_iterator", data := .fields #[.ref ad, .int 0 0] }).get? sh.heap.objs.size = some (bare led) := Heap.get?_push_of_some _ at0
        exact SetOf_congr ((setObjOf_fresh (knd := strKind pr ww) led).setOf at1 (by unfold scanBound; omega)) (fun y => by simp [inOnce, once]) rfl
      case after =>
        intro sh3 mv hS
        obtain ⟨h3, g3, d3, t3, o3⟩ := sh3
        have eg : g3 = sh.gens := mv.gens
        have ed : d3 = sh.drawn := mv.drawn
        have eo : o3 = sh.os := mv.os
        subst eg ed eo
        show wpAny _ _ _ _ _ _
        (refine wpAny_pure ?_; show wpAny _ _ (ret Value.none) _ _ _)
        refine wpAny_pure ⟨rfl, h3, t3, rfl, hS, fun b o hb e => mv.heap b o ?_ (Heap.get?_push_of_some _ (Heap.get?_push_of_some _ e))⟩
        have b1 : b ≠ sh.heap.objs.size := Nat.ne_of_lt hb
        have b2 : b ≠ (sh.heap.push (bare led)).objs.size := by rw [Heap.size_push]; exact Nat.ne_of_lt (Nat.lt_succ_of_lt hb)
        simp only [List.mem_cons, List.mem_singleton, List.not_mem_nil, or_false, not_or]
        exact ⟨b1, b2⟩
    · rcases r2 with ex | fl2
      · exact hr2
      cases fl2 with
      | ret r =>
        obtain ⟨rfl, h2, t2, rfl, hS, hk⟩ := hr2
        repeat any_goals first | assumption | wp_step
        exact fin _ _ hS hk
      | _ => exact hr2.elim
  | _ => exact hr.elim
set_option maxHeartbeats 3300000 in
theorem newTxT {ad : Addr} {its : Array Value} {xs : List Str} {Q : Value → Shared → Prop} (noExc : A.handled = none) (hseq : sh.heap.IsTuple ad its) (tx : StrsAre its.toList xs) (few : its.size + 1 < scanBound)
    (fin : ∀ (h2 : Heap) (t2 : Nat), h2.SetOf (strKind pr ww) sh.heap.objs.size (inOnce xs) (once xs).length → (∀ b o, b < sh.heap.objs.size → sh.heap.get? b = some o → h2.get? b = some o) → Q (.ref sh.heap.objs.size) { sh with heap := h2, toks := t2 }) : wpAny (model pr ww) A (call (.type "set") [.ref ad]) Q E sh := by
  obtain ⟨cc, rest, mro⟩ := F.called_set.mro
  have made := F.called_set.made
  have subS := F.called_set.sub
  (refine wpAny_call (codeAny_of_tree ?_); show wpAny _ _ (callAny (.type "set") _) _ _ sh; refine wpAny_pure ⟨Code.quiet_builtin _ (by decide +kernel), codeAny_builtin F.entry_type_call ?_⟩)
  rw [Around.under_plain (weight_type_call_type "set" [.ref ad] []) rfl]
  have n1 := F.called_set.notType
  have n2 := F.called_set.canCreate
  have n3 := F.typeCall_set_1 (.ref ad)
  repeat any_goals first | assumption | wp_step
  refine codeAny_mono (code_set_new_1 (.ref ad) (E := E) (Q₁ := fun ob sh1 => ∃ led : Bool, ob = .ref sh.heap.objs.size ∧ sh1 = { sh with heap := sh.heap.push (bare led) }) fun led => ⟨led, rfl, rfl⟩) fun r sh1 hr => ?_
  rcases r with ex | fl
  · exact hr
  cases fl with
  | ret ob =>
    obtain ⟨led, rfl, rfl⟩ := hr
    have at0 : (sh.heap.push (bare led)).get? sh.heap.objs.size = some (bare led) := Heap.get?_push_size _ rfl
    have ty0 : Shared.TypeIs { sh with heap := sh.heap.push (bare led) } (.ref sh.heap.objs.size) "set" := ⟨_, at0, rfl⟩
    have in1 := F.called_set.init.lookup
    have in2 := F.called_set.init.bind (.ref sh.heap.objs.size)
    repeat any_goals first | assumption | wp_step
    refine codeAny_mono (codeAny_call_builtin (R := wants (fun r sh2 => r = .none ∧ ∃ h2 t2, sh2 = { sh with heap := h2, toks := t2 } ∧ h2.SetOf (strKind pr ww) sh.heap.objs.size (inOnce xs) (once xs).length ∧ (∀ b o, b < sh.heap.objs.size → sh.heap.get? b = some o → h2.get? b = some o)) E) F.called_set.init.plain F.entry_set_init (check_set_init_1 ty0 ?_)) fun r2 sh2 hr2 => ?_
    · obtain ⟨⟨oc, odt, oda, osl⟩, hol, hcl, nl, hdl⟩ := hseq
      simp only at hcl hdl
      subst hcl hdl
      have hol2 : (sh.heap.push (bare led)).get? ad = some { cls := .type "tuple", dict := odt, data := .seq its nl, slots := osl } := Heap.get?_push_of_some _ hol
      have sub1 := PySem.F.sub_tuple_set
      have sub2 := PySem.F.sub_tuple_frozenset
      have neD : (Value.type "tuple" == Value.type "dict") = false := by decide
      have seq2 : (sh.heap.push (bare led)).IsTuple ad its := ⟨_, hol2, rfl, nl, rfl⟩
      (unfold Builtin.«set.__init__» noKeywords Builtin.Frozenset.updateFrom; generalize ePI : pyIter = PI)
      wp_walk
      subst ePI
      refine wpAny_pyIter_tuple seq2 (wpAny_bind (wpAny_runValue ?_))
      have adLt : ad < sh.heap.objs.size := Heap.lt_size hol
      have noExc3 : A.in1.in1.in1.handled = none := by simp [noExc]
      have apart : ad ≠ (sh.heap.push (bare led)).objs.size := by rw [Heap.size_push]; exact Nat.ne_of_lt (Nat.lt_succ_of_lt adLt)
      have out : sh.heap.objs.size ∉ [(sh.heap.push (bare led)).objs.size, ad] := by
        rw [Heap.size_push]
        simp only [List.mem_cons, List.mem_singleton, List.not_mem_nil, or_false, not_or]
        exact ⟨Nat.ne_of_lt (Nat.lt_succ_self _), Nat.ne_of_gt adLt⟩
      have lenX : xs.length = its.size := by rw [← StrsAre.len_eq tx, Array.length_toList]
      have each : ∀ (i : Nat) (v : Value), its[i]? = some v → ∃ x t, xs[i]? = some x ∧ v = .str x t := fun i v hv => by
        have il : i < xs.length := by rw [lenX]; exact (Array.getElem?_eq_some_iff.mp hv).1
        obtain ⟨t, e⟩ := SS.strs_at tx i v (by rw [Array.getElem?_toList]; exact hv)
        refine ⟨xs[i], t, List.getElem?_eq_getElem il, ?_⟩
        rw [e, List.getD_eq_getElem?_getD, List.getElem?_eq_getElem il]
        rfl
      refine fillTx ((Walks.tuple noExc3 _ ad apart its).toS) out xs lenX few each (its.size - 0) 0 _ (by omega) (Nat.zero_le _) ⟨⟨_, Heap.get?_push_size _ rfl, rfl, rfl⟩, seq2.push _⟩ ?begin ?after
      case begin =>
        have at1 : ((sh.heap.push (bare led)).push { cls := .type "tuple_iterator", data := .fields #[.ref ad, .int 0 0] }).get? sh.heap.objs.size = some (bare led) := Heap.get?_push_of_some _ at0
        exact SetOf_congr ((setObjOf_fresh (knd := strKind pr ww) led).setOf at1 (by unfold scanBound; omega)) (fun y => by simp [inOnce, once]) rfl
      case after =>
        intro sh3 mv hS
        obtain ⟨h3, g3, d3, t3, o3⟩ := sh3
        have eg : g3 = sh.gens := mv.gens
        have ed : d3 = sh.drawn := mv.drawn
        have eo : o3 = sh.os := mv.os
        subst eg ed eo
        show wpAny _ _ _ _ _ _
        (refine wpAny_pure ?_; show wpAny _ _ (ret Value.none) _ _ _)
        refine wpAny_pure ⟨rfl, h3, t3, rfl, hS, fun b o hb e => mv.heap b o ?_ (Heap.get?_push_of_some _ (Heap.get?_push_of_some _ e))⟩
        have b1 : b ≠ sh.heap.objs.size := Nat.ne_of_lt hb
        have b2 : b ≠ (sh.heap.push (bare led)).objs.size := by rw [Heap.size_push]; exact Nat.ne_of_lt (Nat.lt_succ_of_lt hb)
        simp only [List.mem_cons, List.mem_singleton, List.not_mem_nil, or_false, not_or]
        exact ⟨b1, b2⟩
    · rcases r2 with ex | fl2
      · exact hr2
      cases fl2 with
      | ret r =>
        obtain ⟨rfl, h2, t2, rfl, hS, hk⟩ := hr2
        repeat any_goals first | assumption | wp_step
        exact fin _ _ hS hk
      | _ => exact hr2.elim
  | _ => exact hr.elim
end
end TxSet
namespace L2
open PySem PyProof.Rows
def tLenTx (K : PySem.W.Frag) (ta : TE) : TE := fun σ H Q => ta σ H fun x H1 => ∃ l, ∃ xs : List Str, x = .ref l ∧ (SqL K H1 l (xs.map V.str) ∨ SqT K H1 l (xs.map V.str)) ∧ xs.length ≤ 20 ∧ Q (.int (TxSet.once xs).length) H1
theorem pe_lenTx {X : Cx} {a : Expr} {ta : TE} {p p2 q pos : Pos} (hc : X.calm = true) (hg : Gl X "len") (hm : X.mg "len" = none) (hg2 : Gl X "set") (hm2 : X.mg "set" = none) (ha : PE X a ta) (na : starEach [a] X.env = (false, eval a X.env) :: starEach [] X.env := by rfl) :
    PE X (.Call (.Name "len" p) [.Call (.Name "set" p2) [a] [] q] [] pos) (tLenTx X.K ta) := by
  refine ⟨fun pins s σ H Q I h => Call_ (ld_blt I hg hm boot_len (PyProof.Rows.callWith_builtin1 (PyProof.Rows.args_cons (Call_ (ld_blt I hg2 hm2 boot_set (PyProof.Rows.callWith_type1 (PyProof.Rows.args_cons (thn (ha.run pins s σ H _ I h) fun v s1 ⟨x, H1, I1, r1, l, xs, ex, hq, h20, qq⟩ => PyProof.Rows.args_nil ?_) na) na rfl))) rfl) rfl rfl))⟩
  subst ex
  cases r1
  have l2 := TxSet.once_len xs []
  have fin : ∀ (h' : Heap) (tk : Nat), h'.SetOf (PySem.strKind X.prog X.w) s1.heap.objs.size (TxSet.inOnce xs) (TxSet.once xs).length → (∀ b o, b < s1.heap.objs.size → s1.heap.get? b = some o → h'.get? b = some o) →
      wpAny (model X.prog X.w) X.A (spliced (backTo pos (starEach [] X.env))) (fun vs s₂ => wpAny (model X.prog X.w) X.A (call (.builtin "len") (Value.ref s1.heap.objs.size :: vs)) (EP X pins σ Q) X.xe s₂) X.xe { s1 with heap := h', toks := tk } := fun h' tk hS hk => PyProof.Rows.args_nil (by
    obtain ⟨so, es, ep, tb, hso, hex, hd, _, _, _, hf, hn⟩ := hS
    have J2 : Inv X pins σ H1 { s1 with heap := h', toks := tk } := I1.kept fun b ob z => hk b ob (Heap.lt_size z) z
    have l3 : (TxSet.once xs).length ≤ 20 := by unfold TxSet.once; simp at l2; omega
    exact call_len_set hso hex hd hf (by rw [hn]; omega) ⟨.int (TxSet.once xs).length, H1, J2.tok _, ⟨_, by rw [hn]⟩, qq⟩)
  rcases hq with hq | hq
  · obtain ⟨itms, r, pl, hz⟩ := I1.list hq
    have hl := r.length
    rw [List.length_map] at hl
    exact TxSet.newTxL (I1.ok.hd hc) pl.isList (by simpa using strsAre_of r) (by simp; unfold scanBound; omega) fin
  · obtain ⟨itms, r, pl, hz⟩ := I1.tuple hq
    have hl := r.length
    rw [List.length_map] at hl
    exact TxSet.newTxT (I1.ok.hd hc) pl (by simpa using strsAre_of r) (by simp; unfold scanBound; omega) fin
end L2
namespace Dv
open PySem L2
theorem se_lenSet {X : Cx} {e : Expr} {G : Gs} {mu : Mu} {p p2 q pos : Pos} {P : PW1} (h : SE X e G mu fun w mu1 => ∃ xs : List Str, (w = .tup (xs.map W.str) ∨ ∃ a, w = .m a ∧ mu1 a = some (.lst (xs.map W.str))) ∧ xs.length ≤ 20 ∧ P (.int (TxSet.once xs).length) mu1)
    (hm : X.mg "len" = none) (hm2 : X.mg "set" = none) (hc : X.calm = true := by rfl) (hg : Gl X "len" := by rfl) (hg2 : Gl X "set" := by rfl) (na : starEach [e] X.env = (false, eval e X.env) :: starEach [] X.env := by rfl) : SE X (.Call (.Name "len" p) [.Call (.Name "set" p2) [e] [] q] [] pos) G mu P :=
  SE.mk (pe_lenTx hc hg hm hg2 hm2 peE na) fun σ H Q d m k => h σ H _ d m fun v w mu1 H1 h1 c1 d1 m1 => by
    obtain ⟨xs, hw, h20, qq⟩ := h1
    rcases hw with rfl | ⟨a, rfl, ha⟩
    · obtain ⟨l, vs, rfl, s1, d2⟩ := d1
      have := denAll_str d2
      subst this
      exact ⟨l, xs, rfl, .inr s1, h20, (k.step c1).now qq rfl m1⟩
    · obtain ⟨vs, hx, d2⟩ := m1 a _ ha
      have d1 : v = .ref a := d1
      subst d1
      have := denAll_str d2
      subst this
      exact ⟨a, xs, rfl, .inl (SqL.of hx), h20, (k.step c1).now qq rfl m1⟩
end Dv
set_option Elab.async false
set_option linter.all false
set_option maxRecDepth 100000
/-! == and != by a class's own __eq__, by values. -/
namespace DvLow
open PySem PySem.Spec PyProof.Rows
section
variable {prog : Program} {w : World} {A : Around} {E : Value → Shared → Prop} {s : Shared} {K : PySem.W.Frag} {x C f : Addr} {ox : Obj} {od : Option Obj}
theorem dec_int (b : Int) (u : Tok) (l C dx : Addr) : Meets (Builtin.«int.__eq__» ⟨[.int b u, .ref l], []⟩) (fun _ R s => s.heap.get? l = some (PySem.W.instObj C dx) ∧ R (.ok (.ret .notImplemented)) s) :=
  .of_wp fun prog w A R s h => by
    obtain ⟨hp, g, d, tk, os⟩ := s
    obtain ⟨hl, h⟩ := h
    wp_walk using wpAny_loadPart' hl, wpAny_load hl
    exact ⟨_, rfl, h⟩
theorem dec_str (b : Str) (u : Tok) (l C dx : Addr) : Meets (Builtin.«str.__eq__» ⟨[.str b u, .ref l], []⟩) (fun _ R s => s.heap.get? l = some (PySem.W.instObj C dx) ∧ R (.ok (.ret .notImplemented)) s) :=
  .of_wp fun prog w A R s h => by
    obtain ⟨hp, g, d, tk, os⟩ := s
    obtain ⟨hl, h⟩ := h
    wp_walk using wpAny_loadPart' hl, wpAny_load hl
    exact ⟨_, rfl, h⟩
theorem dec_tup {a : Addr} {R : Result → Shared → Prop} (hi : PySem.W.Looks (model prog w) s.heap (isInstance (.ref x) (.type "tuple")) false) (h : R (.ok (.ret .notImplemented)) s) :
    wpAny (model prog w) A.in1 (Builtin.«tuple.__eq__» ⟨[.ref a, .ref x], []⟩) (GQ.FinOf prog w A R) (fun e s' => R (.error e) s') s := by
  obtain ⟨hp, g, d, tk, os⟩ := s
  have hi' : ∀ {Q : Bool → Shared → Prop} {E : Value → Shared → Prop} {A : Around}, Q false ⟨hp, g, d, tk, os⟩ → wpAny (model prog w) A (isInstance (.ref x) (.type "tuple")) Q E ⟨hp, g, d, tk, os⟩ := fun q => hi.here q
  wp_walk using hi'
  exact h
/-- l == x, l of a built-in type that declines, x of a class with its own == -/
theorem refl_K {l : Value} {T id : String} {Q : Value → Shared → Prop} (hu : A.units < cLine) (X : K.In s.heap) (I : PySem.W.InstAt s.heap x ox C od) (hT : s.TypeIs l T) (h1 : oneThing? .Eq l (.ref x) = none)
    (hsub : PySem.W.subIn K (.ref C) (.type T) = some false) (sl : Slot T "__eq__" id) (hc : wpAny (model prog w) A (call (.builtin id) [l, .ref x]) (fun v s' => v = .notImplemented ∧ s' = s) E s)
    (hs : PySem.W.findIn K (.ref C) "__eq__" = some (some (.ref f))) (hf : PySem.W.isFn K (.ref f) = true)
    (h : wpAny (model prog w) A (call (.ref f) [.ref x, l]) (PySem.W.CmpBack Q) E s) : wpAny (model prog w) A (richCompare .Eq l (.ref x)) Q E s := by
  have one : wpAny (model prog w) A (tryCompare l "__eq__" (.ref x)) (fun r s' => r = none ∧ s' = s) E s :=
    wpAny_tryCompare_declines hT sl (wpAny_mono hc (fun v s' ⟨e1, e2⟩ => ⟨e1, rfl, e2⟩) fun _ _ e => e)
  have two : wpAny (model prog w) A (tryCompare (.ref x) "__eq__" l) (fun r s' => ∃ v, r = some v ∧ Q v s') E s := by
    unfold tryCompare
    refine wpAny_bind (PySem.W.ifBound_K X I hs hf (wpAny_mono h (fun v s' hv => ?_) fun _ _ e => e))
    cases v <;> first | exact hv.elim | exact wpAny_pure ⟨_, rfl, hv⟩
  simp only [richCompare, cmpInfo_Eq, h1]
  refine wpAny_holding (wpAny_bind (wpAny_cRoomFor hu ?_))
  refine wpAny_bind (wpAny_typeOf hT ?_)
  refine wpAny_bind (I.type.here ?_)
  split
  · refine wpAny_bind ((PySem.W.looks_subIn X hsub).here ?_)
    simp only [Bool.false_eq_true, if_false, Bool.not_false, if_true]
    refine wpAny_bind (m := tryCompare l _ (.ref x)) (wpAny_mono one (fun r s1 z => ?_) fun _ _ e => e)
    obtain ⟨z1, z2⟩ := z
    subst z1
    subst z2
    refine wpAny_bind (m := tryCompare (.ref x) _ l) (wpAny_mono two (fun r s2 z => ?_) fun _ _ e => e)
    obtain ⟨v, rfl, hq⟩ := z
    exact wpAny_pure hq
  · rename_i q
    exact absurd (by simp) q
theorem bound_ne {M : Model} {args : List Value} {Q : Option Value → Shared → Prop} (X : K.In s.heap) (I : PySem.W.InstAt s.heap x ox C od) (hs : PySem.W.findIn K (.ref C) "__ne__" = some (some (.builtin "object.__ne__")))
    (h : wpAny M A (call (.builtin "object.__ne__") (.ref x :: args)) (fun v => Q (some v)) E s) : wpAny M A (callSpecialIfBound? (.ref x) "__ne__" args) Q E s := by
  have go : wpAny M A (call (.builtin "object.__ne__") ([.ref x] ++ args) >>= fun v => pure (some v)) Q E s := wpAny_bind (wpAny_mono h (fun v s' q => wpAny_pure q) fun _ _ q => q)
  have bd := F.cmp_object.ne.bind (.ref x)
  simp only [callSpecialIfBound?, bindSpecialIfBound?]; refine wpAny_holding (wpAny_bind (wpAny_bind (wpAny_bind (I.type.here ((PySem.W.looks_findIn X hs).here ?_)))))
  refine wpAny_bind (wpAny_askSetting (wpAny_ite ?_)); split
  · exact wpAny_bind (wpAny_of_eq bd (wpAny_pure (by exact go)))
  · exact wpAny_tryCatch (wpAny_bind (wpAny_of_eq bd (wpAny_pure (by exact go))))
set_option maxHeartbeats 4000000 in
/-- x != b, x of a class with its own == and without != of its own -/
theorem ne_K {b tb : Value} {Q : Value → Shared → Prop} (hu : A.units + 1 < cLine) (X : K.In s.heap) (I : PySem.W.InstAt s.heap x ox C od) (hb : PySem.W.Looks (model prog w) s.heap (typeOf b) tb) (hn : PySem.W.notFirst K C tb = true)
    (hm : PySem.W.mroIn K C (.type "object") = some true) (hne : PySem.W.findIn K (.ref C) "__ne__" = some (some (.builtin "object.__ne__")))
    (hs : PySem.W.findIn K (.ref C) "__eq__" = some (some (.ref f))) (hf : PySem.W.isFn K (.ref f) = true)
    (h : wpAny (model prog w) A.in1 (call (.ref f) [.ref x, b]) (fun v s' => ∃ r, v = .bool r ∧ Q (.bool (!r)) s') E s) : wpAny (model prog w) A (richCompare .NotEq (.ref x) b) Q E s := by
  have hu1 : A.in1.units < cLine := hu
  have entry : ∀ {R : Fin → Shared → Prop}, wpAny (model prog w) A.in1 (call (.ref f) [.ref x, b]) (fun v s' => ∃ r, v = .bool r ∧ R (.done (.ret (.bool (!r)))) s') E s → wpAny (model prog w) A.in1 (Builtin.«object.__ne__» ⟨[.ref x, b], []⟩) R E s := by
    intro R hcall
    obtain ⟨hp, g, d, tk, os⟩ := s
    unfold Builtin.«object.__ne__»
    repeat (first
      | with_reducible refine wpAny_cRoomFor hu1 ?_
      | (refine wpAny_bind (m := callSpecialIfBound? (.ref x) (Str.ofString "__eq__") [b])
          (PySem.W.ifBound_K X I hs hf (wpAny_mono hcall (fun r s' hr => by
            obtain ⟨b, rfl, hq⟩ := hr
            repeat (first | exact hq | exact wpAny_pure hq | exact wpAny_truthy_bool hq | (refine wpAny_bind (m := truthy (.bool _)) (wpAny_truthy_bool ?_)) | wp_step)) fun _ _ e => e)))
      | wp_step)
  have one : wpAny (model prog w) A (tryCompare (.ref x) "__ne__" b) (fun r s' => ∃ v, r = some v ∧ Q v s') E s := by
    unfold tryCompare
    have e1 := entry (R := GQ.FinOf prog w A (wants (fun v s' => ∃ r, v = Value.bool r ∧ Q v s') E)) (wpAny_mono h (fun v s' ⟨r, e, q⟩ => ⟨r, e, (show ∃ r', Value.bool (!r) = Value.bool r' ∧ Q (Value.bool (!r)) s' from ⟨!r, rfl, q⟩)⟩) fun _ _ e => e)
    have body : wpAny (model prog w) A (call (.builtin "object.__ne__") [.ref x, b]) (fun v s' => ∃ r, v = .bool r ∧ Q v s') E s := by
      refine wpAny_call (codeAny_call_builtin F.cmp_object.ne.plain F.cmpEntry_ne ?_)
      refine PySem.W.check_slot F.cmpKind_ne F.cmpSplit_ne (I.type.andThen (PySem.W.looks_mroIn X hm)) (F.cmpArgs_ne _ _) ?_
      exact e1
    exact wpAny_bind (bound_ne X I hne (wpAny_mono body (fun v s' ⟨r, e, q⟩ => by subst e; exact wpAny_pure ⟨_, rfl, q⟩) fun _ _ h' => h'))
  unfold richCompare
  simp only [oneThing_ref]
  refine wpAny_holding (wpAny_bind (wpAny_cRoomFor (Nat.lt_of_succ_lt hu) ?_))
  refine wpAny_bind (I.type.here (wpAny_bind (hb.here ?_)))
  split
  · rename_i q
    have e : PySem.W.subIn K tb (.ref C) = some false := by
      rcases Bool.or_eq_true_iff.mp hn with e | e
      · rw [beq_iff_eq.mp e] at q; simp at q
      · exact beq_iff_eq.mp e
    refine wpAny_bind ((PySem.W.looks_subIn X e).here ?_)
    simp only [Bool.false_eq_true, if_false]
    refine wpAny_bind (wpAny_mono one (fun r s' z => ?_) fun _ _ e => e)
    obtain ⟨v, rfl, hq⟩ := z
    exact wpAny_pure hq
  · refine wpAny_bind (wpAny_pure ?_)
    simp only [Bool.false_eq_true, if_false]
    refine wpAny_bind (wpAny_mono one (fun r s' z => ?_) fun _ _ e => e)
    obtain ⟨v, rfl, hq⟩ := z
    exact wpAny_pure hq
end
end DvLow
set_option Elab.async false
set_option linter.all false
set_option maxRecDepth 100000
/-! == and != of instances with an own __eq__: what its promise says of two values. -/
namespace Dv
open PySem L2
section
variable {X : Cx} {pins : List (Addr × Obj)} {σ : St} {H : Hp} {s : Shared}
theorem sub_of {K : PySem.W.Frag} {T : String} {C : Addr} {l : List String} (h : fastBuiltinMro T = some (l.map Value.type)) : PySem.W.subIn K (.type T) (.ref C) = some false := by
  show (fastBuiltinMro T).map (fun z => z.contains (.ref C)) = some false
  rw [h, Option.map_some]
  have : ∀ l : List String, (l.map Value.type).contains (Value.ref C) = false := fun l => by
    induction l with
    | nil => rfl
    | cons a l ih => simp [List.contains_cons]
  rw [this]
theorem first_of {K : PySem.W.Frag} {T : String} {C : Addr} {l : List String} (h : fastBuiltinMro T = some (l.map Value.type)) : PySem.W.notFirst K C (.type T) = true := by
  unfold PySem.W.notFirst
  rw [sub_of h]
  simp
/-- what may stand beside an instance in a comparison -/
inductive OthV (K : PySem.W.Frag) (C : Addr) (H : Hp) : V → Prop where
  | non : OthV K C H .non
  | int (i : Int) : OthV K C H (.int i)
  | str (z : Str) : OthV K C H (.str z)
  | tup {a : Addr} {xs : List V} (h : SqT K H a xs) : OthV K C H (.ref a)
  | ins {a dx : Addr} {fs : List (Str × V)} (h : H a = some (.ins C dx fs)) : OthV K C H (.ref a)
theorem OthV.look {C : Addr} {y : V} {u : Value} (I : Inv X pins σ H s) (r : RelV y u) (o : OthV X.K C H y) : ∃ tb, PySem.W.Looks (model X.prog X.w) s.heap (typeOf u) tb ∧ PySem.W.notFirst X.K C tb = true := by
  cases o with
  | non =>
    cases (show u = Value.none from r)
    exact ⟨.type "NoneType", PySem.W.Looks.of_pure rfl, first_of (l := ["NoneType", "object"]) (by decide +kernel)⟩
  | int i =>
    obtain ⟨t, q⟩ := (show ∃ t, u = Value.int i t from r)
    cases q
    exact ⟨.type "int", PySem.W.Looks.of_pure rfl, first_of (l := ["int", "object"]) (by decide +kernel)⟩
  | str z =>
    obtain ⟨t, q⟩ := (show ∃ t, u = Value.str z t from r)
    cases q
    exact ⟨.type "str", PySem.W.Looks.of_pure rfl, first_of (l := ["str", "object"]) (by decide +kernel)⟩
  | @tup a xs h =>
    cases (show u = Value.ref a from r)
    obtain ⟨its, _, ⟨ob, ho, hc, _⟩, _⟩ := I.tuple h
    exact ⟨.type "tuple", hc ▸ (PySem.W.Looks.ld ho).andThen .now, first_of (l := ["tuple", "object"]) (by decide +kernel)⟩
  | @ins a dx fs h =>
    cases (show u = Value.ref a from r)
    obtain ⟨mA, J, _⟩ := ins_get I.hok h
    obtain ⟨od, J, _⟩ := J.look
    exact ⟨.ref C, J.type, by simp [PySem.W.notFirst]⟩
/-- what the promise S must say of two values, for an end by a truth -/
def Told (K : PySem.W.Frag) (H : Hp) (S : SpW) (x y : V) (Q : Bool → Hp → Prop) : Prop := ∃ ws mu P, S ws mu P ∧ DenAll K H ws [x, y] ∧ HM K H mu ∧ ∀ v w mu' H', P w mu' → Chg mu H mu' H' → Den K H' w v → HM K H' mu' → ∃ b, v = .bl b ∧ Q b H'
theorem run_own {m : Str} {C : Addr} {ps : List Str} {k : Nat} {S : SpW} (D : MetOk X.prog X.w X.K X.mg X.base C m ps k S) : ∃ f, PySem.W.findIn X.K (.ref C) m = some (some (.ref f)) ∧ PySem.W.isFn X.K (.ref f) = true ∧
    ∀ (A : Around) (pins : List (Addr × Obj)) (σ : St) (H : Hp) (s : Shared) (x y : V) (u v : Value) (Q : Bool → Hp → Prop), Sub X k A → Inv X pins σ H s → RelV x u → RelV y v → Told X.K H S x y Q →
      wpAny (model X.prog X.w) A (call (.ref f) [u, v]) (fun r s' => ∃ b H', r = .bool b ∧ Inv X pins σ H' s' ∧ Q b H') X.xe s := by
  obtain ⟨f, fd, F, hm, hb⟩ := D.ex
  refine ⟨f, hm.at_, hm.fn, fun A pins σ H s x y u v Q sb I rx ry ⟨ws, mu, P, hS, d, mm, k⟩ => ?_⟩
  have hsp : spW X.K S [x, y] H (fun v H' => ∃ b, v = .bl b ∧ Q b H') (fun _ _ _ => False) := ⟨ws, mu, P, hS, d, mm, fun v w mu' H' p c dv m' => k v w mu' H' p c dv m'⟩
  have q := I.env0
  have e0 : Env0 X.prog X.w X.K X.mg X.base A X.stack s H := { frames := sb.fr.trans q.frames, mod := q.mod, bs := q.bs, bsz := q.bsz, funs := q.funs, frf := q.frf, hok := q.hok, bare := q.bare }
  have hl := F.len _ _ _ _ hsp
  have r2 : Vals [x, y] [u, v] := .cons rx (.cons ry .nil)
  have bd := hb s [u, v] I.kIn (by simpa using hl)
  rw [List.append_nil] at bd
  refine wpAny_call (codeAny_mono (F.run A X.stack s H ⟨[u, v], []⟩ [u, v] [x, y] _ _ sb.room e0 bd r2 hsp) fun r s' hq => ?_)
  cases r with
  | error e => exact False.elim hq
  | ok fl => cases fl with
    | next => exact False.elim hq
    | brk => exact False.elim hq
    | cont => exact False.elim hq
    | ret w =>
      obtain ⟨z, H', I', rz, b, ez, q⟩ := I.after hq
      subst ez
      cases rz
      exact ⟨b, H', rfl, I', q⟩
def rOwn (K : PySem.W.Frag) (C : Addr) (S : SpW) : R2 := fun x y H Q => (∃ a dx fs, x = .ref a ∧ H a = some (.ins C dx fs)) ∧ OthV K C H y ∧ Told K H S x y fun b H' => Q (.bl b) H'
/-- x == y -/
theorem op_eqOwn {C : Addr} {ps : List Str} {k : Nat} {S : SpW} (D : MetOk X.prog X.w X.K X.mg X.base C "__eq__" ps k S) (hr : Room k X.A) : OpR X (compareOp .Eq) (rOwn X.K C S) := by
  intro pins s σ H x y v u Q I rx ry ⟨⟨a, dx, fs, ex, ha⟩, o, h⟩
  subst ex
  obtain ⟨f, h1, h2, run⟩ := run_own D
  cases rx
  obtain ⟨mA, J, _⟩ := ins_get I.hok ha
  obtain ⟨od, J, _⟩ := J.look
  obtain ⟨tb, L, nf⟩ := o.look I ry
  obtain ⟨m, hF⟩ := I.fr
  show wpAny (model X.prog X.w) X.A (richCompare .Eq (.ref a) u) (EP X pins σ Q) X.xe s
  refine PySem.W.cmp_K (op := .Eq) hr.units0 hF I.ok.mod.kin J L nf h1 h2 ?_
  exact wpAny_mono (run X.A pins σ H s (.ref a) y (.ref a) u (fun b H' => Q (.bl b) H') ⟨hr, rfl⟩ I rfl ry h) (fun r s' ⟨b, H', e, I', q⟩ => by subst e; exact ⟨.bl b, H', I', rfl, q⟩) fun _ _ e => e
/-- the class is no subclass of what stands beside it -/
structure NoSub (K : PySem.W.Frag) (C : Addr) : Prop where
  non : PySem.W.mroIn K C (.type "NoneType") = some false
  int : PySem.W.mroIn K C (.type "int") = some false
  str : PySem.W.mroIn K C (.type "str") = some false
  tup : PySem.W.mroIn K C (.type "tuple") = some false
/-- a value of a built-in type beside an instance -/
inductive BltV (K : PySem.W.Frag) (H : Hp) : V → Prop where
  | non : BltV K H .non
  | int (i : Int) : BltV K H (.int i)
  | str (z : Str) : BltV K H (.str z)
  | tup {a : Addr} {xs : List V} (h : SqT K H a xs) : BltV K H (.ref a)
def rRef (K : PySem.W.Frag) (C : Addr) (S : SpW) : R2 := fun x y H Q => (∃ a dx fs, y = .ref a ∧ H a = some (.ins C dx fs)) ∧ BltV K H x ∧ Told K H S y x fun b H' => Q (.bl b) H'
/-- y == x, y of a built-in type -/
theorem op_eqRef {C : Addr} {ps : List Str} {k : Nat} {S : SpW} (D : MetOk X.prog X.w X.K X.mg X.base C "__eq__" ps k S) (N : NoSub X.K C) (hr : Room k X.A) : OpR X (compareOp .Eq) (rRef X.K C S) := by
  intro pins s σ H x y v u Q I rx ry ⟨⟨a, dx, fs, ey, ha⟩, o, h⟩
  subst ey
  obtain ⟨f, h1, h2, run⟩ := run_own D
  cases ry
  obtain ⟨mA, J0, _⟩ := ins_get I.hok ha
  obtain ⟨od, J, _⟩ := J0.look
  have last : wpAny (model X.prog X.w) X.A (call (.ref f) [.ref a, v]) (PySem.W.CmpBack (EP X pins σ Q)) X.xe s :=
    wpAny_mono (run X.A pins σ H s (.ref a) x (.ref a) v (fun b H' => Q (.bl b) H') ⟨hr, rfl⟩ I rfl rx h) (fun r s' ⟨b, H', e, I', q⟩ => by subst e; exact ⟨.bl b, H', I', rfl, q⟩) fun _ _ e => e
  have hu := hr.units0
  show wpAny (model X.prog X.w) X.A (richCompare .Eq v (.ref a)) (EP X pins σ Q) X.xe s
  cases o with
  | non =>
    cases (show v = Value.none from rx)
    exact DvLow.refl_K hu I.kIn J (show s.TypeIs .none "NoneType" from rfl) rfl N.non F.slot_NoneType_eq (call_gives F.slot_NoneType_eq rfl F.entry_NoneType_eq (F.args_NoneType_eq_2 _ _) (PySem.SeqAt.NoneType___eq___none_ref_0 a) ⟨rfl, rfl⟩) h1 h2 last
  | int i =>
    obtain ⟨t, q⟩ := (show ∃ t, v = Value.int i t from rx)
    cases q
    exact DvLow.refl_K hu I.kIn J (typeIs_int s i t) rfl N.int F.slot_int_eq (call_meets F.slot_int_eq (typeIs_int s i t) F.entry_int_eq (F.args_int_eq_2 _ _) (DvLow.dec_int i t a C dx) ⟨J0.obj, rfl, rfl⟩) h1 h2 last
  | str z =>
    obtain ⟨t, q⟩ := (show ∃ t, v = Value.str z t from rx)
    cases q
    exact DvLow.refl_K hu I.kIn J (typeIs_str s z t) rfl N.str F.slot_str_eq (call_meets F.slot_str_eq (typeIs_str s z t) F.entry_str_eq (F.args_str_eq_2 _ _) (DvLow.dec_str z t a C dx) ⟨J0.obj, rfl, rfl⟩) h1 h2 last
  | @tup p xs hs =>
    cases (show v = Value.ref p from rx)
    obtain ⟨its, _, ⟨ob, ho, hc, _⟩, _⟩ := I.tuple hs
    refine DvLow.refl_K hu I.kIn J ⟨ob, ho, hc⟩ rfl N.tup F.slot_tuple_eq (GQ.call_here F.slot_tuple_eq ⟨ob, ho, hc⟩ F.entry_tuple_eq (F.args_tuple_eq_2 _ _) ?_) h1 h2 last
    exact DvLow.dec_tup (J.type.andThen (PySem.W.looks_mroIn I.kIn N.tup)) ⟨rfl, rfl⟩
/-- x != y -/
def rNeOwn (K : PySem.W.Frag) (C : Addr) (S : SpW) : R2 := fun x y H Q => (∃ a dx fs, x = .ref a ∧ H a = some (.ins C dx fs)) ∧ OthV K C H y ∧ Told K H S x y fun b H' => Q (.bl !b) H'
theorem op_neOwn {C : Addr} {ps : List Str} {k : Nat} {S : SpW} (D : MetOk X.prog X.w X.K X.mg X.base C "__eq__" ps k S) (hr : Room (k + 1) X.A)
    (hm : PySem.W.mroIn X.K C (.type "object") = some true) (hn : PySem.W.findIn X.K (.ref C) "__ne__" = some (some (.builtin "object.__ne__"))) : OpR X (compareOp .NotEq) (rNeOwn X.K C S) := by
  intro pins s σ H x y v u Q I rx ry ⟨⟨a, dx, fs, ex, ha⟩, o, h⟩
  subst ex
  obtain ⟨f, h1, h2, run⟩ := run_own D
  cases rx
  obtain ⟨mA, J, _⟩ := ins_get I.hok ha
  obtain ⟨od, J, _⟩ := J.look
  obtain ⟨tb, L, nf⟩ := o.look I ry
  show wpAny (model X.prog X.w) X.A (richCompare .NotEq (.ref a) u) (EP X pins σ Q) X.xe s
  refine DvLow.ne_K (by have := hr.units; omega) I.kIn J L nf hm hn h1 h2 ?_
  exact wpAny_mono (run X.A.in1 pins σ H s (.ref a) y (.ref a) u (fun b H' => Q (.bl !b) H') ⟨hr.in1, rfl⟩ I rfl ry h) (fun r s' ⟨b, H', e, I', q⟩ => by subst e; exact ⟨b, rfl, .bl !b, H', I', rfl, q⟩) fun _ _ e => e
/-! by values -/
def OthW (C : Addr) (mu : Mu) : W → Prop
  | .non => True
  | .int _ => True
  | .str _ => True
  | .tup _ => True
  | .m a => ∃ fs, mu a = some (.ins C fs)
  | _ => False
theorem OthW.v {K : PySem.W.Frag} {C : Addr} {H : Hp} {mu : Mu} {w : W} {v : V} (m : HM K H mu) (d : Den K H w v) (h : OthW C mu w) : OthV K C H v := by
  cases w with
  | non => have d : v = .non := d; subst d; exact .non
  | bl b => exact h.elim
  | int i => have d : v = .int i := d; subst d; exact .int i
  | str z => have d : v = .str z := d; subst d; exact .str z
  | tup ws => obtain ⟨a, xs, e, q, _⟩ := d; subst e; exact .tup q
  | m a =>
    have d : v = .ref a := d
    subst d
    obtain ⟨fs, e⟩ := h
    obtain ⟨dx, vs, hx, _⟩ := m a _ e
    exact .ins hx
def BltW : W → Prop
  | .non => True
  | .int _ => True
  | .str _ => True
  | .tup _ => True
  | _ => False
theorem BltW.v {K : PySem.W.Frag} {H : Hp} {w : W} {v : V} (d : Den K H w v) (h : BltW w) : BltV K H v := by
  cases w with
  | non => have d : v = .non := d; subst d; exact .non
  | bl b => exact h.elim
  | int i => have d : v = .int i := d; subst d; exact .int i
  | str z => have d : v = .str z := d; subst d; exact .str z
  | tup ws => obtain ⟨a, xs, e, q, _⟩ := d; subst e; exact .tup q
  | m a => exact h.elim
theorem told_of {K : PySem.W.Frag} {H : Hp} {mu : Mu} {S : SpW} {w1 w2 : W} {x y : V} {P : PW1} {Q : Bool → Hp → Prop} {g : Bool → Bool} (dx : Den K H w1 x) (dy : Den K H w2 y) (m : HM K H mu)
    (h : S [w1, w2] mu fun w mu' => ∃ b, w = .bl b ∧ P (.bl (g b)) mu') (k : ∀ b mu' H', P (.bl (g b)) mu' → Chg mu H mu' H' → HM K H' mu' → Q b H') : Told K H S x y Q :=
  ⟨[w1, w2], mu, _, h, ⟨x, [y], rfl, dx, y, [], rfl, dy, rfl⟩, m, fun v w mu' H' ⟨b, e, p⟩ c d m' => by
    subst e
    have d : v = .bl b := d
    exact ⟨b, d, k b mu' H' p c m'⟩⟩
abbrev eqOwnW (C : Addr) (S : SpW) (w1 w2 : W) (mu : Mu) (P : PW1) : Prop := (∃ a fs, w1 = .m a ∧ mu a = some (.ins C fs)) ∧ OthW C mu w2 ∧ S [w1, w2] mu fun w mu' => ∃ b, w = .bl b ∧ P (.bl b) mu'
theorem eqOwn_w {C : Addr} {S : SpW} : OpW X (rOwn X.K C S) (eqOwnW C S) := fun w1 w2 x y mu H P Q dx dy m ⟨⟨a, fs, e, ha⟩, o, h⟩ k => by
  subst e
  have dx' : x = .ref a := dx
  subst dx'
  obtain ⟨dd, vs, hx, _⟩ := m a _ ha
  exact ⟨⟨a, dd, vs, rfl, hx⟩, o.v m dy, told_of (g := id) dx dy m h fun b mu' H' p c m' => k _ _ _ _ p c rfl m'⟩
abbrev eqRefW (C : Addr) (S : SpW) (w1 w2 : W) (mu : Mu) (P : PW1) : Prop := (∃ a fs, w2 = .m a ∧ mu a = some (.ins C fs)) ∧ BltW w1 ∧ S [w2, w1] mu fun w mu' => ∃ b, w = .bl b ∧ P (.bl b) mu'
theorem eqRef_w {C : Addr} {S : SpW} : OpW X (rRef X.K C S) (eqRefW C S) := fun w1 w2 x y mu H P Q dx dy m ⟨⟨a, fs, e, ha⟩, o, h⟩ k => by
  subst e
  have dy' : y = .ref a := dy
  subst dy'
  obtain ⟨dd, vs, hx, _⟩ := m a _ ha
  exact ⟨⟨a, dd, vs, rfl, hx⟩, o.v dx, told_of (g := id) dy dx m h fun b mu' H' p c m' => k _ _ _ _ p c rfl m'⟩
abbrev neOwnW (C : Addr) (S : SpW) (w1 w2 : W) (mu : Mu) (P : PW1) : Prop := (∃ a fs, w1 = .m a ∧ mu a = some (.ins C fs)) ∧ OthW C mu w2 ∧ S [w1, w2] mu fun w mu' => ∃ b, w = .bl b ∧ P (.bl !b) mu'
theorem neOwn_w {C : Addr} {S : SpW} : OpW X (rNeOwn X.K C S) (neOwnW C S) := fun w1 w2 x y mu H P Q dx dy m ⟨⟨a, fs, e, ha⟩, o, h⟩ k => by
  subst e
  have dx' : x = .ref a := dx
  subst dx'
  obtain ⟨dd, vs, hx, _⟩ := m a _ ha
  exact ⟨⟨a, dd, vs, rfl, hx⟩, o.v m dy, told_of (g := fun b => !b) dx dy m h fun b mu' H' p c m' => k _ _ _ _ p c rfl m'⟩
end
/-! isinstance of an own class -/
structure IsCls (K : PySem.W.Frag) (C : Addr) : Prop where
  cl : Cls K C
  ha : PySem.W.findIn K (.ref C) "__class__" = some (some (.builtin "object.__class__"))
  hn : PySem.W.specialIn K (.builtin "object.__class__") "__get__" = some (some (.builtin "getset_descriptor.__get__"))
  ht : PySem.W.takesIn K (.builtin "object.__class__") = some true
  hm : PySem.W.mroIn K C (.type "object") = some true
  self : PySem.W.kitOne K (.ref C) (.ref C) = some true
  non : PySem.W.kitOne K (.type "NoneType") (.ref C) = some false
  int : PySem.W.kitOne K (.type "int") (.ref C) = some false
  str : PySem.W.kitOne K (.type "str") (.ref C) = some false
  tup : PySem.W.kitOne K (.type "tuple") (.ref C) = some false
def isOwn : W → Option Bool
  | .non => some false
  | .int _ => some false
  | .str _ => some false
  | .tup _ => some false
  | .m _ => some true
  | _ => none
theorem isOwn_ok {K : PySem.W.Frag} {H : Hp} {mu : Mu} {C : Addr} {w : W} {v : V} (Z : IsCls K C) (m : HM K H mu) (d : Den K H w v) (h : OthW C mu w) : ∃ t b, isOwn w = some b ∧ TyX K H v t ∧ PySem.W.kitOne K t (.ref C) = some b := by
  cases w with
  | non => exact ⟨_, _, rfl, tyN_ok (n := "NoneType") d m rfl, Z.non⟩
  | bl b => exact h.elim
  | int i => exact ⟨_, _, rfl, tyN_ok (n := "int") d m rfl, Z.int⟩
  | str z => exact ⟨_, _, rfl, tyN_ok (n := "str") d m rfl, Z.str⟩
  | tup ws => exact ⟨_, _, rfl, tyN_ok (n := "tuple") d m rfl, Z.tup⟩
  | m a =>
    have d : v = .ref a := d
    subst d
    obtain ⟨fs, e⟩ := h
    obtain ⟨dx, vs, hx, _⟩ := m a _ e
    exact ⟨_, _, rfl, .base (.ins hx Z.cl Z.ha Z.hn Z.ht Z.hm), Z.self⟩
end Dv
set_option Elab.async false
set_option linter.all false
set_option maxRecDepth 100000
/-! t[::-1] of a tuple; sorted of a tuple; repr; isinstance of an own class. -/
namespace RevT
open PySem PySem.Spec PyProof.Rows HT
theorem adj_rev (n : Nat) : Builtin.Slice.sliceAdjust none none (-1) (n : Int) = ((n : Int) - 1, -1) := rfl
theorem places_rev (n : Nat) : Builtin.Slice.slicePlaces ((n : Int) - 1) (-1) (-1) = n := by
  unfold Builtin.Slice.slicePlaces
  rw [if_neg (by decide)]
  by_cases h : (n : Int) - 1 > -1
  · rw [if_pos h]
    have : ((n : Int) - 1 - -1 - 1) / (- -1) + 1 = n := by
      rw [show (- -1 : Int) = 1 from rfl, Int.ediv_one]
      omega
    rw [this]
    exact Int.toNat_natCast n
  · rw [if_neg h]
    have : n = 0 := by omega
    subst this
    rfl
theorem pick_rev : ∀ (ys : List Value), (List.range ys.length).filterMap (fun (m : Nat) => ys.toArray[(((ys.length : Nat) : Int) - 1 + (m : Int) * -1).toNat]?) = ys.reverse := by
  intro ys
  have h1 : ∀ k, k ≤ ys.length → (List.range k).filterMap (fun (m : Nat) => ys.toArray[(((ys.length : Nat) : Int) - 1 + (m : Int) * -1).toNat]?) = ys.reverse.take k := by
    intro k
    induction k with
    | zero => intro _; rfl
    | succ k ih =>
      intro hk
      rw [List.range_succ, List.filterMap_append, ih (by omega), List.take_add_one]
      congr 1
      have e : ((((ys.length : Nat) : Int) - 1 + (k : Int) * -1).toNat) = ys.length - 1 - k := by omega
      rw [List.filterMap_cons, e]
      have e2 : ys.toArray[ys.length - 1 - k]? = ys.reverse[k]? := by
        rw [List.getElem?_toArray, List.getElem?_reverse (by omega)]
      rw [e2]
      cases hh : ys.reverse[k]? <;> simp
  rw [h1 _ (Nat.le_refl _)]
  exact List.take_of_length_le (by simp)
section
variable {prog : Program} {w : World} {A : Around} {E : Value → Shared → Prop} {s : Shared}
theorem applied_rev {sl : Addr} {vk : Value} {n : Nat} {Q : Int × Int × Nat → Shared → Prop} (hs : s.heap.IsSliceOf sl .none .none vk) (ps : IsPart vk (some (-1)))
    (h : Q ((n : Int) - 1, -1, n) s) : wpAny (model prog w) A (Builtin.Slice.sliceApplied (.ref sl) (pure (n : Int))) Q E s := by
  obtain ⟨os, h1, _, h3⟩ := id hs
  unfold Builtin.Slice.sliceApplied Builtin.Slice.sliceFields
  refine wpAny_bind (wpAny_bind (wpAny_field h1 h3 (x := .none) rfl (wpAny_bind (wpAny_field h1 h3 (x := .none) rfl (wpAny_bind (wpAny_field h1 h3 (x := vk) rfl (wpAny_pure ?_)))))))
  refine wpAny_bind (slicePart_ ps ?_); show wpAny _ _ (if ((-1 : Int) == 0) = true then _ else _) _ _ s
  rw [if_neg (show ¬ ((-1 : Int) == 0) = true by decide)]
  refine wpAny_bind (slicePart_ .none (wpAny_bind (slicePart_ .none (wpAny_bind (wpAny_pure ?_)))))
  show wpAny _ _ (match Builtin.Slice.sliceAdjust none none (-1) (n : Int) with | (lo, hi) => pure (lo, (-1 : Int), Builtin.Slice.slicePlaces lo hi (-1))) _ _ s
  rw [adj_rev n]
  show wpAny _ _ (pure ((n : Int) - 1, (-1 : Int), Builtin.Slice.slicePlaces ((n : Int) - 1) (-1) (-1))) _ _ s
  rw [places_rev]
  exact wpAny_pure h
theorem getItem_rev {t sl : Addr} {its : List Value} {vk : Value} {Q : Value → Shared → Prop} (ht : IsTup s.heap t its.toArray) (hs : s.heap.IsSliceOf sl .none .none vk) (ps : IsPart vk (some (-1))) (hz : its.length ≤ sizeLine)
    (h : Q (.ref s.heap.objs.size) { s with heap := s.heap.push { cls := .type "tuple", data := .seq its.reverse.toArray } }) : wpAny (model prog w) A (getItem (.ref t) (.ref sl)) Q E s := by
  have okz : sizeOk (.seq its.reverse.toArray) := by
    show its.reverse.toArray.size ≤ sizeLine
    rw [List.size_toArray, List.length_reverse]
    exact hz
  obtain ⟨os, h1, h2, h3⟩ := id hs
  have ty : s.TypeIs (.ref sl) "slice" := ⟨os, h1, h2⟩
  unfold getItem; try with_reducible refine wpAny_holding ?_
  try refine wpAny_bind (wpAny_pure ?_)
  refine wpAny_bind (wpAny_sequenceKey ht.typeIs (by decide) (wpAny_bind (wpAny_callSpecial?_slot (name := Str.ofString "__getitem__") ht.typeIs PyProof.Rows.slot_tuple_getitem
    (wpAny_call_entry PyProof.Rows.slot_tuple_getitem ht.typeIs entry_tuple_getitem ?_ (args_tuple_getitem _ _)))))
  show wpAny _ _ (Builtin.Tuple.tupleItemsOf (.ref t) >>= _) _ _ s
  refine wpAny_bind (tupleItemsOf_ ht (wpAny_bind (wpAny_typeOf ty ?_)))
  rw [if_pos (show (Value.type "slice" == Value.type "slice") = true by decide)]
  have ez : its.toArray.size = its.length := by simp
  refine wpAny_bind (applied_rev (n := its.toArray.size) hs ps ?_)
  have no : ¬ ((((its.toArray.size : Nat) : Int) - 1 == 0 && (-1 : Int) == 1 && its.toArray.size == its.toArray.size) = true) := by
    simp
  show wpAny _ _ (if (((its.toArray.size : Nat) : Int) - 1 == 0 && (-1 : Int) == 1 && its.toArray.size == its.toArray.size) = true then _ else _) _ _ s
  rw [if_neg no, ez, pick_rev]
  first
    | exact wpAny_bind (m := Builtin.Tuple.tupleExact _) (wpAny_newObj_type (wpAny_pure ⟨_, rfl, wpAny_pure h⟩) okz)
    | exact wpAny_bind (m := Builtin.Tuple.tupleExact _) (wpAny_newObj_type (wpAny_bind (wpAny_pure (wpAny_pure ⟨_, rfl, wpAny_pure h⟩))) okz)
    | exact wpAny_bind (wpAny_bind (m := Builtin.Tuple.tupleExact _) (wpAny_newObj_type (wpAny_pure (wpAny_pure ⟨_, rfl, wpAny_pure h⟩)) okz))
    | exact wpAny_bind (wpAny_bind (m := Builtin.Tuple.tupleExact _) (wpAny_newObj_type (wpAny_pure ⟨_, rfl, wpAny_pure h⟩) okz))
end
end RevT
namespace SortT
open PySem PySem.Spec PyProof.Rows
section
variable {prog : Program} {w : World} {A : Around} {E : Value → Shared → Prop} {s : Shared} {β : Type} {bs : List β} {enc : β → PyData} {R : Value → β → Prop}
/-- sorted(x), whatever x is: OK tells what collect finds -/
theorem sorted_by {x : Value} {OK : List Value → Shared → Prop} {Q : Value → Shared → Prop} (hx : ∀ {Q' : List Value → Shared → Prop} {E' : Value → Shared → Prop}, (∀ vs s1, OK vs s1 → Q' vs s1) → wpAny (model prog w) A.in1 (collect x) Q' E' s)
    (step : ∀ vs s1, OK vs s1 → ∃ bs : List β, PySem.W.EachIs R vs bs ∧ PySem.W.EachIs (fun v b => ∃ as, Reads s1.heap v (enc b) as) vs bs ∧ PySem.W.AllAlike (bs.map enc) ∧ PySem.W.Sortable (bs.map enc) ∧ bs.length ≤ sizeLine ∧ (∀ b, b ∈ bs → A.units + 2 + (enc b).depth < cLine) ∧
      ∀ out c h', out.length = bs.length → PySem.W.EachIs R out (bs.mergeSort (PySem.W.dataLe false enc)) → (∀ b o, s1.heap.get? b = some o → h'.get? b = some o) → h'.get? s1.heap.objs.size = some (seqObj "list" (List.toArray out) c) → Q (.ref s1.heap.objs.size) { s1 with heap := h' }) :
    wpAny (model prog w) A (call (.builtin "sorted") [x]) Q E s := by
  (refine Calls.call_function_entry kind_sorted plain_sorted entry_sorted (args_sorted1 _) ?_; unfold Builtin.«sorted»)
  refine wpAny_bind (m := checkCount "sorted" 1 1 _) (wpAny_pure (wpAny_bind (hx fun vs s1 ok => ?_)))
  obtain ⟨bs, e, er, al, so, hl, hu, fin⟩ := step vs s1 ok
  refine wpAny_bind (wpAny_newList ?_ (by rw [e.length]; exact hl))
  have ho : (s1.heap.push (seqObj "list" vs.toArray 0)).get? s1.heap.objs.size = some (seqObj "list" vs.toArray 0) := Heap.get?_push_size _ rfl
  have k0 : ∀ b o, s1.heap.get? b = some o → (s1.heap.push (seqObj "list" vs.toArray 0)).get? b = some o := fun b o q => Heap.get?_push_of_some _ q
  have er2 : PySem.W.EachIs (fun v b => ∃ as, Reads (s1.heap.push (seqObj "list" vs.toArray 0)) v (enc b) as ∧ s1.heap.objs.size ∉ as) vs bs := er.mono fun v b ⟨as, r⟩ => ⟨as, PyProof.Rows.Reads.keeps k0 r, fun z => by
    obtain ⟨o, ho⟩ := PyProof.On.reads_mem_get r _ z
    exact Nat.lt_irrefl _ (Heap.lt_size ho)⟩
  refine wpAny_bind (wpAny_holding ?_)
  refine PySem.W.list_sort_data (s := { s1 with heap := s1.heap.push (seqObj "list" vs.toArray 0) }) ho e er2 al so hl (fun b hb => by have := hu b hb; show A.units + 1 + 1 + _ < _; omega) fun out ho2 he => ?_
  obtain ⟨c, hc⟩ := sortedHeap_at (vs := vs) (out := List.toArray out) ho
  refine wpAny_pure ⟨_, rfl, fin out c _ ho2 he (fun b o q => ?_) hc⟩
  have lt := Heap.lt_size q
  show (sortedHeap (s1.heap.push (seqObj "list" vs.toArray 0)) s1.heap.objs.size vs (List.toArray out)).get? b = some o
  rw [sortedHeap_old (Nat.ne_of_lt lt) (by rw [size_push']; exact Nat.lt_succ_of_lt lt)]
  exact k0 _ _ q
/-- what sorted finds in a tuple -/
theorem collect_tup {a : Addr} {vs : List Value} {Q : List Value → Shared → Prop} (ht : s.heap.IsTuple a vs.toArray) (hz : vs.length ≤ sizeLine)
    (h : ∀ h', (∀ b o, s.heap.get? b = some o → h'.get? b = some o) → s.heap.objs.size ≤ h'.objs.size → Q vs { s with heap := h' }) : wpAny (model prog w) A (collect (.ref a)) Q E s := by
  obtain ⟨o, ho, hc, n, hd⟩ := id ht
  have lt := Heap.lt_size ho
  (unfold collect; refine wpAny_bind (wpAny_runValue (codeAny_builtin entry_proto_collect' ?_)))
  show wpAny _ _ (do again (.builtin "list.__iadd__" ⟨[← newList [], .ref a], []⟩)) _ _ s
  refine wpAny_bind (wpAny_newList (wpAny_pure ⟨Code.quiet_builtin _ (by decide +kernel), codeAny_builtin entry_list_iadd' ?_⟩))
  have new : (s.heap.push (seqObj "list" #[] 0)).get? s.heap.objs.size = some (seqObj "list" #[] 0) := Heap.get?_push_size _ rfl
  rw [Around.under_plainId F.plain_list_iadd _]; show wpAny _ _ (Builtin.List.listExtendWith (.ref s.heap.objs.size) (.ref a) (.ref s.heap.objs.size)) _ _ { s with heap := s.heap.push (seqObj "list" #[] 0) }
  have ho' := Heap.get?_push_of_some (seqObj "list" #[] 0) ho
  (unfold Builtin.List.listExtendWith; refine wpAny_bind (wpAny_typeOf (T := "tuple") ⟨o, ho', hc⟩ ?_))
  rw [if_pos (show (Builtin.List.listSameRef (.ref s.heap.objs.size) (.ref a) || Value.type "tuple" == Value.type "list" || Value.type "tuple" == Value.type "tuple") = true by simp)]
  refine wpAny_bind (listItems_at ho' hd (wpAny_bind (listItems_at (xs := #[]) (n := 0) new rfl ?_)))
  rw [if_neg (by simp)]
  refine wpAny_bind (listUpdate_at (xs := #[]) (n := 0) new rfl ?_ (Nat.zero_le _) (by show (#[] ++ vs.toArray).size ≤ sizeLine + 1; simp only [Array.size_append, List.size_toArray, List.length_nil]; omega))
  refine wpAny_pure ?_
  show wpAny (model prog w) A (do
      let o ← load s.heap.objs.size
      match o.data with
      | .seq xs _ => pure xs.toList
      | _ => unsupported "internal:collect") Q E { s with heap := (s.heap.push (seqObj "list" #[] 0)).update s.heap.objs.size (Obj.mapSeq (· ++ vs.toArray)) }
  refine wpAny_bind (wpAny_load (get?_update_seq new _) ?_)
  show wpAny _ _ (pure ((#[] : Array Value) ++ vs.toArray).toList) Q E _
  rw [show ((#[] : Array Value) ++ vs.toArray).toList = vs by simp]
  refine wpAny_pure (h _ (fun b u e => ?_) ?_)
  · rw [Heap.get?_update_ne _ _ _ _ (Nat.ne_of_lt (Heap.lt_size e))]
    exact Heap.get?_push_of_some _ e
  · rw [Heap.size_update, size_push']
    exact Nat.le_succ _
end
end SortT
namespace Dv
open PySem L2
section
variable {X : Cx} {e a b c : Expr} {es : List Expr} {st : Stmt} {sts : List Stmt} {G : Gs} {mu mu' : Mu} {pos p : Pos} {P : PW1}
/-- t[::-1] of a tuple -/
def tRevT (K : PySem.W.Frag) (te : TE) : TE := fun σ H Q => te σ H fun x H1 => ∃ a xs, x = .ref a ∧ SqT K H1 a xs ∧ ∀ p, H1 p = none → Q (.ref p) (upd H1 p (.tup xs.reverse))
theorem pe_revT {e : Expr} {te : TE} {k : Nat} {p1 p2 p3 pos : Pos} (he : PE X e te) : PE X (.Subscript e (.Slice none none (some (.UnaryOp .USub (.Constant (.int 1) k p1) p2)) p3) pos) (tRevT X.K te) := by
  refine ⟨fun pins s σ H Q I h => PyProof.Rows.Subscript_ (thn (he.run pins s σ H _ I h) fun v s1 ⟨x, H1, I1, r1, a, xs, ex, hx, q⟩ => ?_)⟩
  subst ex
  cases r1
  have part : PO X (some (.UnaryOp .USub (.Constant (.int 1) k p1) p2)) (tPart (tUn (rU fun i => .int (-i)) (tC (.int 1)))) := po_some (pe_un un_neg pe_int)
  refine wpAny_Slice (thn (po_none.run pins s1 σ H1 (fun o H2 => o = none ∧ H2 = H1) I1 ⟨rfl, rfl⟩) fun vl s2 ⟨l, H2, I2, pl, el, e2⟩ => ?_)
  subst el e2
  refine thn (po_none.run pins s2 σ H2 (fun o H3 => o = none ∧ H3 = H2) I2 ⟨rfl, rfl⟩) fun vu s3 ⟨u, H3, I3, pu, eu, e3⟩ => ?_
  subst eu e3
  refine thn (part.run pins s3 σ H3 (fun o H4 => o = some (-1) ∧ H4 = H3) I3 ⟨1, rfl, -1, rfl, rfl, rfl⟩) fun vs s4 ⟨o, H4, I4, ps, eo, e4⟩ => ?_
  subst eo e4
  have I5 : Inv X pins σ H4 { s4 with heap := s4.heap.push { cls := .type "slice", data := .fields #[vl, vu, vs] } } := I4.kept (t' := s4.toks) fun b ob z => Heap.get?_push_of_some _ z
  obtain ⟨its, r, ht, hz⟩ := I5.tuple hx
  have nl : vl = .none := by cases pl; rfl
  have nu : vu = .none := by cases pu; rfl
  subst nl nu
  show wpAny (model X.prog X.w) X.A (PyProof.Rows.subscriptTail e (.Slice none none (some (.UnaryOp .USub (.Constant (.int 1) k p1) p2)) p3) (.ref a) (.ref s4.heap.objs.size)) (EP X pins σ Q) X.xe { s4 with heap := s4.heap.push { cls := .type "slice", data := .fields #[.none, .none, vs] } }
  refine PyProof.Rows.tail_any (ops := [.ref a, .ref s4.heap.objs.size]) ht.typeIs PyProof.Rows.slot_tuple_getitem.lookup ?_ (by with_unfolding_all rfl)
  refine RevT.getItem_rev ht (Heap.IsSliceOf.new _ .none .none vs) ps (by rw [← r.length]; exact hz) ?_
  refine ⟨.ref _, _, I5.laid (t' := s4.toks) (o := .tup xs.reverse) (fun b ob z => Heap.get?_push_of_some _ z) (Nat.le_refl _) ?_, rfl, q _ (I5.hok.fresh (Nat.le_refl _))⟩
  exact ⟨by rw [List.length_reverse]; exact hz, _, r.reverse, PyProof.Rows.IsTup.new _ _⟩
theorem se_rev {k : Nat} {p1 p2 p3 : Pos} (h : SE X a G mu fun w mu1 => match w with | .tup us => P (.tup us.reverse) mu1 | _ => False) : SE X (.Subscript a (.Slice none none (some (.UnaryOp .USub (.Constant (.int 1) k p1) p2)) p3) pos) G mu P :=
  SE.mk (pe_revT peE) fun σ H Q d m kk => h σ H _ d m fun v w mu1 H1 h1 c1 d1 m1 => by
    cases w with
    | tup us =>
      obtain ⟨q, xs, e, sq, dx⟩ := d1
      subst e
      refine ⟨q, xs, rfl, sq, fun r hr => ?_⟩
      obtain ⟨c2, m2⟩ := laid (o := .tup xs.reverse) m1 hr
      exact kk _ _ _ _ h1 (c1.trans c2) ⟨r, _, rfl, .inl (.inl upd_same), (c2.denAll m1 dx).reverse⟩ m2
    | non => exact h1.elim
    | bl b => exact h1.elim
    | int i => exact h1.elim
    | str z => exact h1.elim
    | m q => exact h1.elim
/-- sorted of a tuple of data -/
def rSortT (K : PySem.W.Frag) : List V → Hp → VK → Prop := fun vs H Q => ∃ (a : Addr) (xs : List V) (us : List W), vs = [.ref a] ∧ SqT K H a xs ∧ DenAll K H us xs ∧ plsW us = true ∧ PySem.W.AllAlike (dats us) ∧ PySem.W.Sortable (dats us) ∧ (∀ u ∈ us, (dat u).depth ≤ 64) ∧
  ∀ p ys, H p = none → DenAll K H (us.mergeSort leW) ys → Q (.ref p) (upd H p (.lst ys))
theorem cr_sortedT {j : Nat} (hr : Room j X.A) : CallR X (.builtin "sorted") (rSortT X.K) := by
  intro pins s σ H vs us' Q I r ⟨a, xs, us, ev, hs, dx, pl, al, so, dp, q⟩
  subst ev
  cases r with
  | cons ra rn =>
  cases rn
  cases ra
  obtain ⟨its, rv, pT, hz⟩ := I.tuple hs
  have em : (xs.zip us).map (fun b => dat b.2) = dats us := by
    have := congrArg (List.map dat) (zip_snd dx)
    rw [List.map_map] at this
    rw [show dats us = us.map dat from by simpa using dats_mapD us]
    exact this
  have hlen : (xs.zip us).length = us.length := by rw [List.length_zip, ← dx.length]; omega
  have lz : us.length ≤ sizeLine := by rw [dx.length]; exact hz
  refine SortT.sorted_by (β := V × W) (enc := fun b => dat b.2) (R := fun u b => RelV b.1 u) (OK := fun vs s1 => vs = its ∧ ∃ h', s1 = { s with heap := h' } ∧ (∀ b o, s.heap.get? b = some o → h'.get? b = some o) ∧ s.heap.objs.size ≤ h'.objs.size)
    (fun h => SortT.collect_tup pT (by rw [← rv.length]; exact hz) fun h' k z => h _ _ ⟨rfl, h', rfl, k, z⟩) ?_
  rintro vs s1 ⟨rfl, h', rfl, k0, z0⟩
  have I1 : Inv X pins σ H { s with heap := h' } := I.kept (t' := s.toks) k0
  refine ⟨xs.zip us, each_zip dx rv, each_reads I1 pl dx rv, by rw [em]; exact al, by rw [em]; exact so, by rw [hlen]; exact lz, fun b hb => ?_, fun out c h2 hl he k2 hc => ?_⟩
  · have := dp b.2 (List.of_mem_zip hb).2
    have := hr.un
    omega
  · have hn : H h'.objs.size = none := I1.hok.fresh (Nat.le_refl _)
    have dn : DenAll X.K H (us.mergeSort leW) (((xs.zip us).mergeSort (PySem.W.dataLe false fun b => dat b.2)).map (·.1)) := by
      have h1 := denAll_of (K := X.K) (H := H) (bs := (xs.zip us).mergeSort (PySem.W.dataLe false fun b => dat b.2)) fun b hb => zip_den dx b ((List.mergeSort_perm _ _).mem_iff.mp hb)
      have h2 : ((xs.zip us).mergeSort (PySem.W.dataLe false fun b => dat b.2)).map (·.2) = us.mergeSort leW :=
        (PySem.W.sort_maps (r := PySem.W.dataLe false fun b : V × W => dat b.2) (s := leW) (l := xs.zip us) (fun b : V × W => b.2) fun a _ b _ => rfl).trans (by rw [zip_snd dx])
      rw [h2] at h1
      exact h1
    refine ⟨.ref h'.objs.size, upd H h'.objs.size (.lst _), I1.laid (t' := s.toks) k2 (Nat.le_refl _) ⟨?_, out, c, each_vals he, hc⟩, rfl, q _ _ hn dn⟩
    rw [List.length_map, List.length_mergeSort, hlen]
    exact lz
abbrev sortTW (ws : List W) (mu : Mu) (P : PW1) : Prop := ∃ us, ws = [.tup us] ∧ plsW us = true ∧ PySem.W.AllAlike (dats us) ∧ PySem.W.Sortable (dats us) ∧ (∀ u ∈ us, (dat u).depth ≤ 64) ∧ ∀ p, mu p = none → P (.m p) (setM mu p (.lst (us.mergeSort leW)))
theorem sortT_w : CallW X (rSortT X.K) sortTW := fun ws vs mu H P Q d m ⟨us, e, pl, al, so, dp, q⟩ k => by
  subst e
  obtain ⟨v, ev, a, xs, e2, sq, dx⟩ := d.one
  subst ev e2
  refine ⟨a, xs, us, rfl, sq, dx, pl, al, so, dp, fun p ys hp dy => ?_⟩
  obtain ⟨c2, m2⟩ := laidC (o := .lst ys) (c := .lst (us.mergeSort leW)) m hp (newLst dy)
  exact k _ _ _ _ (q p (m.dom hp)) c2 rfl m2
theorem se_sortT {j : Nat} (hr : Room j X.A) (h : SE X e G mu fun w mu1 => sortTW [w] mu1 P) (hm : X.mg "sorted" = none) (hg : Gl X "sorted" := by rfl) (he : starEach [e] X.env = [(false, eval e X.env)] := by rfl) (hpl : (backTo pos (starEach [] X.env)).any (·.1) = false := by rfl) :
    SE X (.Call (.Name "sorted" p) [e] [] pos) G mu P := se_blt (cr_sortedT hr) sortT_w hm (sa_one h he) (by decide +kernel) hg (by decide) (by decide) he hpl
/-- repr of data, where no repr is under way -/
def rReprD (K : PySem.W.Frag) : List V → Hp → VK → Prop := fun vs H Q => ∃ a d, vs = [.ref a] ∧ Dp K H (.ref a) d ∧ d.showable = true ∧ d.hasDict = false ∧ d.depth ≤ 60 ∧ d.shown.length ≤ sizeLine ∧ Q (.str d.shown) H
theorem cr_repr {j : Nat} (hr : Room j X.A) (hg : X.A.guards = some []) : CallR X (.builtin "repr") (rReprD X.K) := by
  intro pins s σ H vs us Q I r ⟨a, d, e, dp, hs, hd, hk, hz, q⟩
  subst e
  cases r with
  | cons ra rn =>
  cases rn
  cases ra
  obtain ⟨as, rd⟩ := Dp.reads I d (.ref a) _ dp rfl
  exact repr_of_reads' rd hs (fun e => by rw [hd] at e; cases e) hg (by have := hr.un; omega) (fun _ _ e => e) (fun h' u tk k => ⟨.str _, H, I.kept (h' := h') (t' := tk) k, ⟨_, rfl⟩, q⟩) hz
def isRef : W → Prop
  | .tup _ => True
  | .m _ => True
  | _ => False
abbrev reprW (ws : List W) (mu : Mu) (P : PW1) : Prop := ∃ w d, ws = [w] ∧ isRef w ∧ asD mu w = some d ∧ d.showable = true ∧ d.hasDict = false ∧ d.depth ≤ 60 ∧ d.shown.length ≤ sizeLine ∧ P (.str d.shown) mu
theorem repr_w : CallW X (rReprD X.K) reprW := fun ws vs mu H P Q d m ⟨w, dd, e, hi, ha, h1, h2, h3, h4, q⟩ k => by
  subst e
  obtain ⟨v, ev, dv⟩ := d.one
  subst ev
  have dp := asD_ok m dv ha
  have rf : ∃ a, v = .ref a := by
    cases w with
    | tup us => obtain ⟨a, _, e, _⟩ := dv; exact ⟨a, e⟩
    | m a => exact ⟨a, dv⟩
    | non => exact hi.elim
    | bl b => exact hi.elim
    | int i => exact hi.elim
    | str z => exact hi.elim
  obtain ⟨a, ea⟩ := rf
  subst ea
  exact ⟨a, dd, rfl, dp, h1, h2, h3, h4, k.now q rfl m⟩
theorem se_repr {j : Nat} (hr : Room j X.A) (hgd : X.A.guards = some []) (h : SE X e G mu fun w mu1 => reprW [w] mu1 P) (hm : X.mg "repr" = none) (hg : Gl X "repr" := by rfl) (he : starEach [e] X.env = [(false, eval e X.env)] := by rfl) (hpl : (backTo pos (starEach [] X.env)).any (·.1) = false := by rfl) :
    SE X (.Call (.Name "repr" p) [e] [] pos) G mu P := se_blt (cr_repr hr hgd) repr_w hm (sa_one h he) (by decide +kernel) hg (by decide) (by decide) he hpl
/-- isinstance(e, C), C a class of the text -/
abbrev isOwnW (C : Addr) (ws : List W) (mu : Mu) (P : PW1) : Prop := ∃ w, ws = [w, .m C] ∧ OthW C mu w ∧ ∀ b, isOwn w = some b → P (.bl b) mu
theorem isOwn_w {C : Addr} (Z : IsCls X.K C) : CallW X (rIsi X.K) (isOwnW C) := fun ws vs mu H P Q d m ⟨w, e, o, q⟩ k => by
  subst e
  obtain ⟨v, v2, ev, d1, d2⟩ := d.two
  have d2 : v2 = .ref C := d2
  subst ev d2
  obtain ⟨t, b, h1, h2, h3⟩ := isOwn_ok Z m d1 o
  exact ⟨v, .ref C, t, .ref C, b, rfl, .own C, h2, h3, k.now (q b h1) rfl m⟩
theorem se_isOwn {q : Pos} {x : Str} {C : Addr} (Z : IsCls X.K C) (hx : X.mg x = some (.ref C)) (h : SE X e G mu fun w mu1 => OthW C mu1 w ∧ ∀ b, isOwn w = some b → P (.bl b) mu1) (hm : X.mg "isinstance" = none)
    (hg : Gl X "isinstance" := by rfl) (hgx : Gl X x := by rfl) (hdx : (x == ("__debug__" : Str)) = false := by decide) (hs : starEach [e, .Name x q] X.env = (false, eval e X.env) :: starEach [.Name x q] X.env := by rfl)
    (hs2 : starEach [.Name x q] X.env = [(false, eval (.Name x q) X.env)] := by rfl) (hpl : (backTo pos (starEach [.Name x q] X.env)).any (·.1) = false := by rfl) : SE X (.Call (.Name "isinstance" p) [e, .Name x q] [] pos) G mu P :=
  se_blt call_isi (isOwn_w Z) hm (sa_two (h.imp fun w mu1 ⟨o, k⟩ => se_glob (w := .m C) (v := .ref C) hx rfl (fun _ _ => rfl) ⟨w, rfl, o, k⟩ hgx hdx) hs hs2) (by decide +kernel) hg (by decide) (by decide) hs hpl
end
end Dv
set_option Elab.async false
set_option linter.all false
set_option maxRecDepth 100000
/-! Defs that ask for repr: their promise where no repr is under way. -/
namespace Dv
open PySem PySem.Spec PyProof.Rows L2
structure FnG (P : Program) (w : World) (K : PySem.W.Frag) (mg : Str → Option Value) (base : Heap) (k : Nat) (f : Addr) (fd : FuncData) (ps : List Str) (sp : Sp) : Prop where
  len : ∀ vs H Q E, sp vs H Q E → vs.length = ps.length
  run : ∀ (A : Around) (outer : List Env) (s : Shared) (H : Hp) (args : Args) (us : List Value) (vs : List V) (Q : VK) (E : XK), Room k A → A.guards = some [] → Env0 P w K mg base A outer s H → BindsTo s fd args (ps.zip us) → Vals vs us → sp vs H Q E → codeAny (model P w) A (.call (.ref f) args) (CR CX0 outer P w H s Q E) s
section
variable {P : Program} {w : World} {K : PySem.W.Frag} {mg : Str → Option Value} {base : Heap}
theorem okG {x qual : Str} {st : Stmt} {f : Addr} {fd : FuncData} {N ps : List Str} {k : Nat} {S : SpW} (F : Fun K x qual st f fd) (Sc : FnScope N ps (defScope st)) (len : ∀ ws mu P, S ws mu P → ws.length = ps.length)
    (body : ∀ (cdv : Value) (A : Around) (outer : List Env) (s : Shared) (H : Hp) (E : XK), Room k (A.deeper (envOfC qual (defScope st) s.heap.objs.size f cdv)) → A.guards = some [] → ∀ ws mu Pt, S ws mu Pt →
      SSs (cxOf CX0 P w K mg base N qual (defScope st) f cdv A outer s H E).nox (defBody st) (startW N ws) mu { nx := fun _ mu' => Pt .non mu', rt := Pt }) : FnG P w K mg base (k + 1) f fd ps (spW K S) := by
  obtain ⟨oc, od, kV, doc, pm, an, cdv, ct, osl, efd, lk, hcd⟩ := F.ex
  subst efd
  have lenV : ∀ vs H Q E, spW K S vs H Q E → vs.length = ps.length := fun vs H Q E ⟨ws, mu, Pt, h, d, _, _⟩ => d.length ▸ len ws mu Pt h
  refine ⟨lenV, fun A outer s H args us vs Q E hr hgd e0 hb r hsp => ?_⟩
  have kin : K.In s.heap := e0.mod.kin.keeps fun b o e => (e0.bs b o e).1
  have nol : s.heap.NoLimit := e0.mod.nolimit.keeps fun b o e => (e0.bs b o e).1
  have kinds : ∀ y ∈ ps.zip us, (defScope st).names.lookup y.1 = some .local ∨ ((defScope st).names.lookup y.1 = some .cell ∧ ((cellsFrom (s.heap.objs.size + 1) (defScope st).names []).lookup y.1).isSome = true) := by
    intro y hy
    obtain ⟨n, v⟩ := y
    exact (Sc.par n (List.of_mem_zip hy).1).imp id fun q => ⟨q, PySem.W.cellsFrom_some _ _ _ (.inl q)⟩
  refine codeAny_call_function hr.depth (kin _ _ lk) rfl Sc.co Sc.gen rfl (PySem.W.codeRec_of kin hcd) (hb _ _ _ _ (wpAny_newFunctionEnv_cells Sc.kind kinds fun env he s1 xx => ?_))
  subst he
  refine ⟨nol.keeps xx.toInCall.keep, codeAny_func ?_⟩
  have I := inv_start (CX := CX0) (E := E) Sc hr.hd e0 (lenV _ _ _ _ hsp) r xx
  obtain ⟨ws, mu, Pt, h, d, m, kk⟩ := hsp
  have said := body cdv A outer s H E (hr.deeper _) hgd ws mu Pt h _ _ { nx := fun _ H' => Q .non H', rt := Q } (start_den d) m ⟨fun σ G mu' H' h' c d' m' => kk .non .non mu' H' h' c rfl m', kk, fun _ _ _ _ h => h.elim, fun _ _ _ _ h => h.elim⟩
  have go := (pssS (X := (cxOf CX0 P w K mg base N qual (defScope st) f cdv A outer s H E).nox) (sts := defBody st)).nox.run [] s1 (start N vs) H _ I said
  refine wpAny_mono go (fun fl s' hs => ?_) fun e s' hs => hs
  have fin : ∀ {σ' : L2.St} {H' : Hp} {v : V} {u : Value}, Inv (cxOf CX0 P w K mg base N qual (defScope st) f cdv A outer s H E) [] σ' H' s' → RelV v u → Q v H' → CE outer P w H s Q u s' := fun {_ _ v _} J rv q => ⟨v, _, J.os, J.bare, J.base, J.hok, rv, q⟩
  cases fl with
  | ret u => obtain ⟨v, σ', H', J, rv, q⟩ := hs; exact fin J rv q
  | next => obtain ⟨σ', H', J, q⟩ := hs; exact fin (v := V.non) (u := Value.none) J rfl q
  | brk => obtain ⟨_, _, _, q⟩ := hs; exact q.elim
  | cont => obtain ⟨_, _, _, q⟩ := hs; exact q.elim
structure DefG (P : Program) (w : World) (K : PySem.W.Frag) (mg : Str → Option Value) (base : Heap) (x : Str) (ps : List Str) (k : Nat) (S : SpW) : Prop where
  ex : ∃ f fd, FnG P w K mg base k f fd ps (spW K S) ∧ mg x = some (.ref f) ∧ PySem.W.keepIn K (.ref f) = true ∧ Binds K fd ps []
theorem dfnG {x : Str} {st : Stmt} {N ps : List Str} {k : Nat} {S : SpW} (D : Dfn K mg x st ps) (Sc : FnScope N ps (defScope st)) (len : ∀ ws mu P, S ws mu P → ws.length = ps.length)
    (body : ∀ (f : Addr) (cdv : Value) (A : Around) (outer : List Env) (s : Shared) (H : Hp) (E : XK), Room k (A.deeper (envOfC x (defScope st) s.heap.objs.size f cdv)) → A.guards = some [] → ∀ ws mu Pt, S ws mu Pt →
      SSs (cxOf CX0 P w K mg base N x (defScope st) f cdv A outer s H E).nox (defBody st) (startW N ws) mu { nx := fun _ mu' => Pt .non mu', rt := Pt }) : DefG P w K mg base x ps (k + 1) S := by
  obtain ⟨f, fd, F, hm, hb⟩ := D.ex
  exact ⟨f, fd, okG F Sc len (body f), hm, F.kp, hb⟩
end
section
variable {X : Cx} {e : Expr} {es : List Expr} {G : Gs} {mu : Mu} {pos p : Pos} {P : PW1}
theorem se_callG {x : Str} {ps : List Str} {k : Nat} {S : SpW} (D : DefG X.prog X.w X.K X.mg X.base x ps k S) (hr : Room k X.A) (hgd : X.A.guards = some []) (h : SA X (e :: es) G mu fun ws mu1 => S ws mu1 P)
    (hg : Gl X x := by rfl) (hdb : (x == ("__debug__" : Str)) = false := by decide) (he : starEach (e :: es) X.env = (false, eval e X.env) :: starEach es X.env := by rfl) (hpl : (backTo pos (starEach es X.env)).any (·.1) = false := by rfl) : SE X (.Call (.Name x p) (e :: es) [] pos) G mu P := by
  obtain ⟨f, fd, F, hm, hk, hb⟩ := D.ex
  intro σ H Q d m kk pins s I
  refine wpAny_Call_Name_kw (ld_glob I hg hm ?_ hdb)
  refine PySem.W.callWith_K (h₀ := X.base) I.ok.mod.kin hk (thn (h σ H (fun vs H1 => spW X.K S vs H1 Q fun _ _ _ => False) d m (fun vs ws mu1 H1 h1 c1 d1 m1 => ⟨ws, mu1, P, h1, d1, m1, kk.step c1⟩) pos pins s I) fun us s1 ⟨vs, H1, I1, r, q⟩ => ⟨I1.kIn, ?_⟩) he hpl
  have hl : (us ++ []).length = ps.length := by rw [List.append_nil, ← r.length]; exact F.len _ _ _ _ q
  have bd := hb s1 us I1.kIn hl
  rw [List.append_nil] at bd
  refine wpAny_call (codeAny_mono (F.run X.A X.stack s1 H1 ⟨us, []⟩ us vs Q _ hr hgd I1.env0 bd r q) fun z s' hq => ?_)
  cases z with
  | error e => exact False.elim hq
  | ok fl => cases fl with
    | ret u => exact I1.after hq
    | next => exact False.elim hq
    | brk => exact False.elim hq
    | cont => exact False.elim hq
end
end Dv
namespace Dv
open PySem PySem.Spec PyProof.Rows L2
/-- != of texts -/
theorem neS_w {X : Cx} : OpW X rNe fun w1 w2 mu P => ∃ i j, w1 = .str i ∧ w2 = .str j ∧ ∀ b, b = (!decide (i = j)) → P (.bl b) mu := fun w1 w2 x y mu H P Q dx dy m ⟨i, j, e1, e2, q⟩ k => by
  subst e1 e2
  have dx : x = .str i := dx
  have dy : y = .str j := dy
  subst dx dy
  refine ⟨rfl, ?_⟩
  have : (!decide (V.str i = V.str j)) = !decide (i = j) := by
    congr 1
    rw [Bool.eq_iff_iff, decide_eq_true_iff, decide_eq_true_iff]
    exact ⟨fun e => by injection e, fun e => by rw [e]⟩
  rw [this]
  exact k.now (q _ rfl) rfl m
theorem ne_self (x : Str) : (!decide (x = x)) = false := by simp
/-- the script: a list of whole numbers among what stood before -/
structure Scr (base : Heap) (a : Addr) (ns : List Int) : Prop where
  ex : ∃ vs : List Value, base.get? a = some { cls := .type "list", data := .seq vs.toArray } ∧ IntsAre vs ns
  few : ns.length ≤ 63
section
variable {X : Cx} {e a b : Expr} {es : List Expr} {G : Gs} {mu : Mu} {pos p : Pos} {P : PW1}
theorem cr_lenB {ad : Addr} {ns : List Int} (S : Scr X.base ad ns) : CallR X (.builtin "len") (fun xs H Q => xs = [.ref ad] ∧ Q (.int (ns.length : Nat)) H) := by
  intro pins s σ H xs us Q I r ⟨e, q⟩
  subst e
  obtain ⟨u, eu, ru⟩ := vals1 r
  subst eu
  cases ru
  obtain ⟨vs, hv, hi⟩ := S.ex
  have e2 := hi.length
  have e3 := S.few
  have il : s.heap.IsList ad vs.toArray := ⟨_, I.bk _ _ hv, rfl, _, rfl⟩
  exact Calls.call_len_list il (by simp only [List.size_toArray]; omega) ⟨.int (ns.length : Nat), H, I.tok _, ⟨_, by simp only [List.size_toArray]; rw [e2]⟩, q⟩
theorem se_lenB {ad : Addr} {ns : List Int} (S : Scr X.base ad ns) (h : SE X e G mu fun w mu1 => w = .m ad ∧ P (.int (ns.length : Nat)) mu1) (hm : X.mg "len" = none) (hg : Gl X "len" := by rfl) (hs : starEach [e] X.env = [(false, eval e X.env)] := by rfl) (hpl : (backTo pos (starEach [] X.env)).any (·.1) = false := by rfl) : SE X (.Call (.Name "len" p) [e] [] pos) G mu P :=
  se_blt (f := fun ws mu P => ws = [.m ad] ∧ P (.int (ns.length : Nat)) mu) (cr_lenB S) (fun ws vs mu H P Q d m ⟨e, q⟩ k => by
    subst e
    obtain ⟨v, ev, dv⟩ := d.one
    have dv : v = .ref ad := dv
    subst ev dv
    exact ⟨rfl, k.now q rfl m⟩) hm (sa_one (h.imp fun w mu1 ⟨e, q⟩ => by subst e; exact ⟨rfl, q⟩) hs) (by decide +kernel) hg (by decide) (by decide) hs hpl
theorem se_ixB {ad : Addr} {ns : List Int} (S : Scr X.base ad ns) (h : SE X a G mu fun w1 mu1 => w1 = .m ad ∧ SE X b G mu1 fun w2 mu2 => ∃ (k : Nat) (i : Int), w2 = .int (k : Nat) ∧ ns[k]? = some i ∧ P (.int i) mu2) (hs : PlainIx b := by exact fun _ _ => rfl) : SE X (.Subscript a b pos) G mu P :=
  SE.mk (pe_ix (r := fun x y H Q => ∃ (k : Nat) (i : Int), x = .ref ad ∧ y = .int (k : Nat) ∧ ns[k]? = some i ∧ Q (.int i) H) (fun value slice pins s σ H x y v u Q I rx ry ⟨k, i, e1, e2, e3, q⟩ hs => by
    subst e1 e2
    cases rx
    obtain ⟨t, et⟩ := ry
    subst et
    obtain ⟨vs, hv, hi⟩ := S.ex
    have lt : k < ns.length := (List.getElem?_eq_some_iff.mp e3).1
    have l2 := hi.length
    have l3 := S.few
    obtain ⟨z, ez, rz⟩ := (vals_ints hi).get (i := k) (x := .int i) (by rw [List.getElem?_map, e3]; rfl)
    have il : s.heap.IsList ad vs.toArray := ⟨_, I.bk _ _ hv, rfl, _, rfl⟩
    exact item_listR il (Int.natCast_nonneg k) (by have : vs.toArray.size = vs.length := List.size_toArray; omega) (by rw [Int.toNat_natCast]; simpa using ez) ⟨.int i, H, I, rz, q⟩ hs) peE peE hs) fun σ H Q d m k => h σ H _ d m fun x w1 mu1 H1 ⟨e1, h1⟩ c1 d1 m1 => h1 σ H1 _ (c1.denG m d) m1 fun y w2 mu2 H2 ⟨kk, i, e2, e3, q⟩ c2 d2 m2 => by
      subst e1 e2
      have d1 : x = .ref ad := d1
      have d2 : y = .int (kk : Nat) := d2
      subst d1 d2
      exact ⟨kk, i, rfl, rfl, e3, (k.step (c1.trans c2)).now q rfl m2⟩
end
section
variable {P : Program} {w : World} {K : PySem.W.Frag} {mg mb : Str → Option Value} {k : Nat} {fa a : Addr} {fd : FuncData} {x : Str} {sp : Sp} {s1 : Shared} {vs : List Value} {ns : List Int}
theorem lawG (KX : K.In s1.heap) (hns : s1.heap.Ns mainGlobals mg) (hb : s1.heap.Ns builtinsNs mb) (hbb : ∀ x : Str, x ≠ "__name__" → mb x = bootBuiltins x) (hlim : s1.heap.NoLimit) (hg : s1.gens = #[])
    (ha : s1.heap.get? a = some { cls := .type "list", data := .seq vs.toArray }) (hi : IntsAre vs ns) (hl : ns.length ≤ 63) (hr : Room k callerA)
    (F : ∀ base : Heap, K.In base → base.Ns mainGlobals mg → Scr base a ns → FnG P w K mg base k fa fd [x] sp) (bd : ∀ (s : Shared) (u : Value), BindsTo s fd ⟨[u], []⟩ [(x, u)])
    (hsp : sp [.ref a] (fun _ => none) (fun v _ => v = .bl true) fun _ _ _ => False) :
    codeAny (model P w) callerA (.call (.ref fa) ⟨[.ref a], []⟩) (fun r s' => r = .ok (.ret (.bool true)) ∧ OldK s1.heap s'.heap ∧ s'.os = s1.os ∧ AllBare s'.gens) s1 := by
  have ok : HOk P w (fun _ => none) s1.heap := fun b u z => nomatch z
  have md : Mod K mg s1.heap := ⟨KX, hns, ⟨mb, hb, hbb⟩, hlim⟩
  have e0 : Env0 P w K mg s1.heap callerA [] s1 (fun _ => none) := { frames := rfl, mod := md, bs := fun b o e => ⟨e, rfl⟩, bsz := Nat.le_refl _, funs := trivial, frf := fun _ _ => rfl, hok := ok, bare := .of_eq hg }
  refine codeAny_mono ((F _ KX hns ⟨⟨vs, ha, hi⟩, hl⟩).run callerA [] s1 _ ⟨[.ref a], []⟩ [.ref a] [.ref a] _ _ hr rfl e0 (bd s1 (.ref a)) (.cons rfl .nil) hsp) fun r s' h => ?_
  cases r with
  | error e => exact False.elim h
  | ok fl => cases fl with
    | next => exact h.elim
    | brk => exact h.elim
    | cont => exact h.elim
    | ret u =>
      obtain ⟨v, H', os, bare, un, ok2, rr, q⟩ := h
      have q : v = .bl true := q
      subst q
      have rr : u = Value.bool true := rr
      subst rr
      exact ⟨rfl, OldK.of_keep fun b o e => un.keep b o e rfl (by intro q; exact absurd (show b ∈ ([] : List Addr) from q) (by simp)) (by simp), os, bare⟩
end
theorem walkG {l : PySem.W.OpenLaw} {k : Nat} {q : Program} {loose : List Str} {XP : (Str → Option Value) → Heap → Prop} {YP : World → Heap → Prop} {d : DefRec} {K : Params → PySem.W.Frag} {S : Addr → SpW} {x : Str}
    (hn : l.most = some 63) (hdf : d.params.defaults = []) (hr : Room k callerA) (hY : ∀ (w : World) (h : Heap), YP w h → (K w.params).In h)
    (F : ∀ (w : World) (mg : Str → Option Value) (fa : Addr) (h : Heap), (K w.params).In h → h.Ns mainGlobals mg → mg d.name = some (.ref fa) → ∃ fd : FuncData, (∀ (s : Shared) (u : Value), BindsTo s fd ⟨[u], []⟩ [(x, u)]) ∧
      ∀ (base : Heap) (a : Addr) (ns : List Int), (K w.params).In base → base.Ns mainGlobals mg → Scr base a ns → FnG l.prog w (K w.params) mg base k fa fd [x] (spW (K w.params) (S a)))
    (hS : ∀ (a : Addr) (P : PW1), (∀ mu', P (.bl true) mu') → S a [.m a] (fun _ => none) P) :
    PySem.W.WalkO q loose XP YP l.row.toRowW d [] (fun f vs => PySem.call f vs) := by
  refine Att.attach_call hn hdf fun w s0 s1 mg mb fa o pm cd doc a vs ns G Y ho hd hcd hmg hobj hints hlen hg => ?_
  have kx := hY w _ Y
  obtain ⟨fd, bd, hF⟩ := F w mg fa _ kx G.T.g hmg
  refine lawG kx G.T.g G.T.b G.T.builtins G.T.nolimit hg hobj hints hlen hr (fun base h1 h2 sc => hF base a ns h1 h2 sc) bd ?_
  refine ⟨[.m a], fun _ => none, fun w _ => w = .bl true, hS a _ fun _ => rfl, ⟨.ref a, [], rfl, rfl, rfl⟩, fun a c z => (nomatch z), fun v w mu' H' e c d m => ?_⟩
  subst e
  exact d
end Dv
set_option Elab.async false
set_option linter.all false
set_option maxRecDepth 100000
namespace K1
open PySem L2 Dv
theorem bit01 (b : Bool) : (if b = true then (1 : Int) else 0).natAbs < 2 ^ 1 := by cases b <;> decide
theorem bitmul (b : Bool) {m A : Int} (h0 : 0 ≤ m) (h1 : m < A) : 0 ≤ m * (if b = true then (1 : Int) else 0) ∧ m * (if b = true then (1 : Int) else 0) < A := by
  cases b
  · simp; omega
  · simp; exact ⟨h0, h1⟩
section
variable {P : Program} {w : World} {K : PySem.W.Frag} {mg : Str → Option Value} {base : Heap}
abbrev s_Ljar : Stmt := top 42
theorem sc_Ljar : FnScope ["_law_script", "_law_k", "_law_cell", "_law_mine"] ["_law_script", "_law_k"] (defScope s_Ljar) := ⟨rfl, rfl, rfl, by decide +kernel, rfl, by decide +kernel, by decide +kernel⟩
def S_jar (a : Addr) : SpW := fun ws mu P => ∃ (k : Nat), ws = [.m a, .int ((k : Nat) : Int)] ∧ k ≤ 3 ∧ ∀ y mu', mu y = none → JarOk mu' y 0 → Ext mu mu' → P (.m y) mu'
theorem d_Ljar {a : Addr} {cells : List Int} (sc : Scr base a cells) (D : Dfn K mg "_law_jar" s_Ljar ["_law_script", "_law_k"]) (B : Bl mg) : DefOk P w K mg base "_law_jar" ["_law_script", "_law_k"] 1 (S_jar a) := by
  refine dfnOk D sc_Ljar (fun ws mu P ⟨k, e, _⟩ => by rw [e]; rfl) (fun f cdv A outer s H E hr ws mu Pt ⟨k, e, k3, h⟩ => ?_)
  subst e
  refine sss_cons ?_
  refine ss_asg ?_
  refine se_if ?_
  refine st_cmp op_lt cmpI_w (nomark _) ?_  -- _law_k < len(_law_script)
  refine se_var (i := 1) rfl ?_  -- _law_k
  refine se_lenB sc ?_ B.len
  refine se_var (i := 0) rfl ?_  -- _law_script
  refine ⟨rfl, ?_⟩
  have body : ∀ cell : Int, SSs (cxOf CX0 P w K mg base ["_law_script", "_law_k", "_law_cell", "_law_mine"] "_law_jar" (defScope s_Ljar) f cdv A outer s H E).nox ((defBody s_Ljar).tail) [some (.m a), some (.int (k : Int)), some (.int cell), none] mu { nx := fun _ mu' => Pt .non mu', rt := Pt } := fun cell => by
    refine sss_cons ?_
    refine ss_asg ?_
    refine se_bin op_Mult Mult_w ?_
    refine se_bin op_Mod Mod_w ?_
    refine se_intC ?_ B.int
    refine se_absC ?_ B.abs
    refine se_var (i := 2) rfl ?_  -- _law_cell
    refine ⟨cell, rfl, ?_⟩
    have hc : ∃ c, c = (if cell < 0 then -cell else cell) := ⟨_, rfl⟩
    obtain ⟨c, hc⟩ := hc
    rw [← hc]
    refine se_bin op_powW PowW_w ?_
    refine se_bin op_Pow Pow_w ?_
    refine se_int ?_  -- 10
    refine se_int ?_  -- 60
    refine ⟨⟨by decide, by decide, by decide⟩, ?_⟩
    refine se_int ?_  -- 5
    refine ⟨⟨by decide, by decide +kernel⟩, ?_⟩
    have e300 : (((10 : Int) ^ (60 : Int).toNat) ^ (5 : Int).toNat) = 10 ^ 300 := by decide +kernel
    rw [e300]
    have p300 : (0 : Int) < 10 ^ 300 := by decide +kernel
    refine ⟨p300, ?_⟩
    have m0 := Int.emod_nonneg c (Int.ne_of_gt p300)
    have m1 := Int.emod_lt_of_pos c p300
    have hm : ∃ m, m = c % 10 ^ 300 := ⟨_, rfl⟩
    obtain ⟨m, hm⟩ := hm
    rw [← hm] at m0 m1 ⊢
    refine se_intC ?_ B.int
    refine se_cmp op_ge cmpI_w (nomark _) ?_  -- abs(_law_cell) >= 10 ** 18
    refine se_absC ?_ B.abs
    refine se_var (i := 2) rfl ?_  -- _law_cell
    refine ⟨cell, rfl, ?_⟩
    refine se_bin op_Pow Pow_w ?_
    refine se_int ?_  -- 10
    refine se_int ?_  -- 18
    refine ⟨⟨by decide, by decide, by decide⟩, ?_⟩
    refine ⟨?_, ?_⟩
    · obtain ⟨n, rfl⟩ : ∃ n : Nat, m = n := ⟨m.toNat, by omega⟩
      have n1 : n < 10 ^ 300 := by
        have e : ((10 ^ 300 : Nat) : Int) = 10 ^ 300 := by decide +kernel
        rw [← e] at m1
        exact Int.ofNat_lt.mp m1
      have n2 : (10 : Nat) ^ 300 ≤ 2 ^ 1000 := by decide +kernel
      exact cmulW 1000 1 (by rw [Int.natAbs_natCast]; exact Nat.lt_of_lt_of_le n1 n2) (bit01 _) (by decide) (by decide) (by decide)
    · refine sg_name (i := 3) ?_ sc_Ljar.nd  -- _law_mine =
      have hmine : ∃ mn, mn = m * (if (decide ((if cell < 0 then -cell else cell) ≥ (10 : Int) ^ (18 : Int).toNat)) = true then 1 else 0) := ⟨_, rfl⟩
      obtain ⟨mn, hmn⟩ := hmine
      rw [← hmn]
      have mn0 : 0 ≤ mn ∧ mn < 10 ^ 300 := by
        rw [hmn]
        exact bitmul _ m0 m1
      refine sss_cons ?_
      refine ss_ret ?_
      refine se_lst ?_
      refine sa_cons ?_
      refine se_var (i := 3) rfl ?_  -- _law_mine
      refine sa_cons ?_
      refine se_bin op_Mod Mod_w ?_
      refine se_intC ?_ B.int
      refine se_bin op_Add Add_w ?_
      refine se_bin op_Add Add_w ?_
      refine se_bin op_Mult Mult_w ?_
      refine se_bin op_Mod Mod_w ?_
      refine se_intC ?_ B.int
      refine se_var (i := 2) rfl ?_  -- _law_cell
      refine se_int ?_  -- 2305843009213693951
      refine ⟨by decide, ?_⟩
      refine se_int ?_  -- 70843
      have r0 := Int.emod_nonneg cell (show (2305843009213693951 : Int) ≠ 0 by decide)
      have r1 := Int.emod_lt_of_pos cell (show (0 : Int) < 2305843009213693951 by decide)
      refine ⟨cmulW 61 17 (by omega) (by decide) (by decide) (by decide) (by decide), ?_⟩
      refine se_bin op_Mult Mult_w ?_
      refine se_bin op_Mult Mult_w ?_
      refine se_int ?_  -- 8521
      refine se_var (i := 1) rfl ?_  -- _law_k
      refine ⟨cmulW 14 2 (by decide) (by omega) (by decide) (by decide) (by decide), ?_⟩
      refine se_var (i := 1) rfl ?_  -- _law_k
      refine ⟨cmulW 16 2 (by omega) (by omega) (by decide) (by decide) (by decide), ?_⟩
      refine se_int ?_  -- 41
      refine se_int ?_  -- 2305843009213693921
      refine ⟨by decide, ?_⟩
      refine sa_cons ?_
      refine se_int ?_  -- 0
      refine sa_nil ?_
      refine ⟨by show 3 ≤ sizeLine; decide, fun y ny => ?_⟩
      have q1 := Int.emod_lt_of_pos (cell % 2305843009213693951 * 70843 + 8521 * (k : Int) * (k : Int) + 41) (show (0 : Int) < 2305843009213693921 by decide)
      have q0 := Int.emod_nonneg (cell % 2305843009213693951 * 70843 + 8521 * (k : Int) * (k : Int) + 41) (show (2305843009213693921 : Int) ≠ 0 by decide)
      exact h y _ ny ⟨_, _, _, setM_same, mn0.1, mn0.2, q0, Int.lt_trans q1 (by decide), Int.le_refl _, Int.le_refl _⟩ (Ext.refl.set ny)
  by_cases hk : (k : Int) < (cells.length : Nat)
  · show if2 (decide ((k : Int) < (cells.length : Nat))) _ _
    rw [decide_eq_true hk]
    refine se_ixB sc ?_  -- _law_script[_law_k]
    refine se_var (i := 0) rfl ?_  -- _law_script
    refine ⟨rfl, ?_⟩
    refine se_var (i := 1) rfl ?_  -- _law_k
    have hk' : k < cells.length := by omega
    refine ⟨k, cells[k], rfl, List.getElem?_eq_getElem hk', ?_⟩
    exact sg_name (i := 2) (body _) sc_Ljar.nd
  · show if2 (decide ((k : Int) < (cells.length : Nat))) _ _
    rw [decide_eq_false hk]
    refine se_bin op_Add Add_w ?_
    refine se_bin op_Mult Mult_w ?_
    refine se_int ?_  -- 29
    refine se_var (i := 1) rfl ?_  -- _law_k
    refine ⟨cmulW 5 2 (by decide) (by omega) (by decide) (by decide) (by decide), ?_⟩
    refine se_int ?_  -- 11
    exact sg_name (i := 2) (body _) sc_Ljar.nd
end
end K1
set_option Elab.async false
set_option linter.all false
set_option maxRecDepth 100000
/-! Texts cut at a separator: for promises of texts that are read back. -/
namespace Dv
open PySem L2
section
variable {X : Cx} {e o : Expr} {G : Gs} {mu : Mu} {pos apos : Pos} {P : PW1}
/-- t.split(sep): a new list of texts -/
theorem se_split (h : SE X o G mu fun w mu1 => ∃ z, w = .str z ∧ SE X e G mu1 fun w2 mu2 => ∃ y, w2 = .str y ∧ (y.length == 0) = false ∧ z.length + 2 ≤ sizeLine ∧ ∀ l, mu2 l = none → P (.m l) (setM mu2 l (.lst ((Txt.split z y).map W.str))))
    (hs : starEach [e] X.env = [(false, eval e X.env)] := by rfl) (hbase : attributeBase o "split" X.env (eval o X.env) = eval o X.env := by rfl) (hline : (apos.endLine == pos.line) = true := by rfl) : SE X (.Call (.Attribute o "split" apos) [e] [] pos) G mu P :=
  SE.mk (pe_split peE peE hs hbase hline) fun σ H Q d m k => h σ H _ d m fun x w mu1 H1 ⟨z, e1, h1⟩ c1 d1 m1 => by
    subst e1
    have d1 : x = .str z := d1
    subst d1
    refine ⟨⟨z, rfl⟩, h1 σ H1 _ (c1.denG m d) m1 fun v w2 mu2 H2 ⟨y, e2, hy, hz, q⟩ c2 d2 m2 => ?_⟩
    subst e2
    have d2 : v = .str y := d2
    subst d2
    refine ⟨z, y, rfl, rfl, hy, hz, fun l hl => ?_⟩
    have dn : DenAll X.K H2 ((Txt.split z y).map W.str) ((Txt.split z y).map V.str) := by
      generalize Txt.split z y = ys
      induction ys with
      | nil => rfl
      | cons t ys ih => exact ⟨_, _, rfl, rfl, ih⟩
    obtain ⟨c3, m3⟩ := laidC (o := .lst ((Txt.split z y).map V.str)) (c := .lst ((Txt.split z y).map W.str)) m2 hl (newLst dn)
    exact (k.step (c1.trans c2)) _ _ _ _ (q l (m2.dom hl)) c3 rfl m3
/-- what was put together with one sign between, cut at it -/
theorem cut_put {s : Nat} (hs : s < 256) {ys : List Str} (ne : ys ≠ []) (h : ∀ y ∈ ys, s ∉ y.cps.toList) : Txt.split (Txt.join ⟨#[s]⟩ ys) ⟨#[s]⟩ = ys :=
  TL.split_join (y := ⟨#[s]⟩) (s := s) (S := []) rfl (by simp [hs]) ne h
end
end Dv
set_option Elab.async false
set_option linter.all false
set_option maxRecDepth 100000
/-! Lists put together; comprehensions of new cells. -/
namespace Dv
open PySem L2
section
variable {X : Cx} {e a b c : Expr} {es : List Expr} {st : Stmt} {sts : List Stmt} {G : Gs} {mu mu' : Mu} {pos : Pos} {P : PW1}
/-! ### as in Dv3, and the new list's own place is told to be free until the end -/
theorem lc_rdN {g : TG} {tt : TT} {te : TE} {tg iter : Expr} {vs : List Nat} {σ : St} {H : Hp} {Q : VK} {P : PW1} (d : DenG X.K H G σ) (m : HM X.K H mu) (k : Kont X.K mu H P Q)
    (h : SI X tg iter G mu fun ws Gm mu1 => ∀ D, mu1 D = none → ∃ I : Nat → List W → Mu → Prop, I 0 [] mu1 ∧ (∀ i acc mu', i ≤ ws.length → I i acc mu' → Gm mu') ∧
      (∀ i w acc mu', ws[i]? = some w → I i acc mu' → acc.length < sizeLine ∧ ∀ (σ' : St) (H' : Hp) (v : V) (R : Option V → Hp → Prop), DenG X.K H' (wipeG G vs) (wipe σ vs) → HM X.K H' mu' → Den X.K H' w v →
        (∀ r y mu4 H4, Chg mu' H' mu4 H4 → HM X.K H4 mu4 → Den X.K H4 r y → I (i + 1) (acc ++ [r]) mu4 → R (some y) H4) → (∀ mu4 H4, Chg mu' H' mu4 H4 → HM X.K H4 mu4 → I (i + 1) acc mu4 → R none H4) →
        g v (wipe σ vs) H' fun σ2 H2 => wipe σ2 vs = wipe σ vs ∧ tt σ2 H2 fun b H3 => if b = true then te σ2 H3 fun y H4 => R (some y) H4 else R none H3) ∧
      ∀ acc mu', I ws.length acc mu' → mu' D = none → P (.m D) (setM mu' D (.lst acc))) : tLc (tI X tg iter) g tt te vs σ H Q := by
  refine h σ H _ d m fun J ws Gm mu1 H1 hI c1 m1 ⟨Gh, Y, wk, hg, hy⟩ D hD => ?_
  obtain ⟨I, i0, ig, it, ie⟩ := hI D (m1.dom hD)
  obtain ⟨c0, m0⟩ := laid (o := .lst []) m1 hD
  have dne : ∀ mu' H', Chg mu1 H1 mu' H' → ∀ b o, H1 b = some o → b ≠ D := fun _ _ _ b o e => ne_of_none e hD
  refine lc_it wk (fun i H' => ∃ acc mu' xs, I i acc mu' ∧ H' D = some (.lst xs) ∧ DenAll X.K H' acc xs ∧ mu' D = none ∧ HM X.K H' mu' ∧ Chg mu1 H1 mu' H') ⟨[], mu1, [], i0, upd_same, rfl, m1.dom hD, m0, c0⟩
    (fun i H' hi ⟨acc, mu', xs, q, _, _, _, m2, c2⟩ => hg mu' H' c2 m2 (ig i acc mu' hi q)) (fun i x H' H'' hi ⟨acc, mu', xs, q, hx, dx, nD, m2, c2⟩ y => ?_) fun H' ⟨acc, mu', xs, q, hx, dx, nD, m2, c2⟩ => ?_
  · obtain ⟨w, hw, c3, m3, d3⟩ := hy i H' x H'' mu' hi c2 m2 (ig i acc mu' (Nat.le_of_lt hi) q) y
    obtain ⟨hl, hh⟩ := it i w acc mu' hw q
    have dw : DenG X.K H'' (wipeG G vs) (wipe σ vs) := c3.denG m2 (c2.denG m1 (c1.denG m (wipeG_den d vs)))
    refine hh σ H'' x (fun oy H4 => match oy with
      | some y => ∃ acc', H4 D = some (.lst acc') ∧ acc'.length < sizeLine ∧ ∃ acc mu' xs, I (i + 1) acc mu' ∧ (upd H4 D (.lst (acc' ++ [y]))) D = some (.lst xs) ∧ DenAll X.K (upd H4 D (.lst (acc' ++ [y]))) acc xs ∧ mu' D = none ∧ HM X.K (upd H4 D (.lst (acc' ++ [y]))) mu' ∧ Chg mu1 H1 mu' (upd H4 D (.lst (acc' ++ [y])))
      | none => ∃ acc mu' xs, I (i + 1) acc mu' ∧ H4 D = some (.lst xs) ∧ DenAll X.K H4 acc xs ∧ mu' D = none ∧ HM X.K H4 mu' ∧ Chg mu1 H1 mu' H4) dw m3 d3 (fun r y mu4 H4 c4 m4 d4 q4 => ?_) fun mu4 H4 c4 m4 q4 => ?_
    · have hx3 := c3.keep _ _ hx nD
      have nD3 := nD
      have hx4 := c4.keep _ _ hx3 nD
      have nD4 := c4.new _ _ hx3 nD
      have dx4 := c4.denAll m3 (c3.denAll m2 dx)
      have sq : ∀ a ys, SqT X.K H4 a ys → SqT X.K (upd H4 D (.lst (xs ++ [y]))) a ys := fun a ys s => by
        rcases s with (s | ⟨o, s⟩) | s
        · exact .inl (.inl (by rw [upd_ne (ne_of s hx4 (by intro z; cases z))]; exact s))
        · exact .inl (.inr ⟨o, by rw [upd_ne (ne_of s hx4 (by intro z; cases z))]; exact s⟩)
        · exact .inr s
      refine ⟨xs, hx4, by rw [← dx4.length]; exact hl, acc ++ [r], mu4, xs ++ [y], q4, upd_same, DenAll.append (DenAll.mono sq _ dx4) ⟨y, [], rfl, Den.mono sq _ d4, rfl⟩, nD4, fun a cc ha => CellOk.mono sq (m4 a cc ha) (upd_ne fun z => by subst z; rw [nD4] at ha; cases ha), ?_⟩
      have cc := (c2.trans c3).trans c4
      exact ⟨fun b o e n => by rw [upd_ne (ne_of_none e hD)]; exact cc.keep b o e n, cc.old, cc.new⟩
    · have hx3 := c3.keep _ _ hx nD
      have hx4 := c4.keep _ _ hx3 nD
      exact ⟨acc, mu4, xs, q4, hx4, c4.denAll m3 (c3.denAll m2 dx), c4.new _ _ hx3 nD, m4, (c2.trans c3).trans c4⟩
  · refine k (.ref D) (.m D) (setM mu' D (.lst acc)) H' (ie acc mu' q nD) (c1.trans ⟨c2.keep, fun b cc e => ?_, fun b o e n => ?_⟩) rfl fun a cc ha => ?_
    · by_cases z : b = D
      · subst z; exact ⟨_, setM_same⟩
      · rw [setM_ne z]; exact c2.old b cc e
    · rw [setM_ne (ne_of_none e hD)]
      exact c2.new b o e n
    · by_cases z : a = D
      · subst z
        rw [setM_same] at ha
        cases ha
        exact ⟨xs, hx, dx⟩
      · rw [setM_ne z] at ha
        exact m2 a cc ha
abbrev lcPostN (B : (Cx → Prop) → Prop) (T : Tg) (elt : Expr) (vs : List Nat) (G : Gs) (P : PW1) : List W → (Mu → Prop) → Mu → Prop := fun ws Gm mu1 => ∀ D, mu1 D = none → ∃ I : Nat → List W → Mu → Prop, I 0 [] mu1 ∧ (∀ i acc mu', i ≤ ws.length → I i acc mu' → Gm mu') ∧
  (∀ i w acc mu', ws[i]? = some w → I i acc mu' → acc.length < sizeLine ∧ ∃ G2, T.bind w (wipeG G vs) = some G2 ∧ B fun Y => SE Y elt G2 mu' fun r mu4 => I (i + 1) (acc ++ [r]) mu4) ∧ ∀ acc mu', I ws.length acc mu' → mu' D = none → P (.m D) (setM mu' D (.lst acc))
theorem lc_tur0N {scope : Scope} {own : List (Str × Nat)} {tg iter elt : Expr} (T : Tg) {P : PW1} {σ : St} {H : Hp} {Q : VK} (ha : T.all (fun i => decide (i ∈ own.map (·.2))) = true) (d : DenG X.K H G σ) (m : HM X.K H mu) (k : Kont X.K mu H P Q)
    (h : SI X tg iter G mu (lcPostN (InBlk X scope) T elt (own.map (·.2)) G P)) :
    tLc (tI X tg iter) (gT X.K T) tYes (fun σ2 H2 Q2 => ∀ (s : Shared) (H : Hp) (C : Addr) (cl : List (Str × Addr)) (fp : List Addr), tE (X.blk s H scope (compEnvC scope cl C X.env) fp) elt σ2 H2 Q2) (own.map (·.2)) σ H Q := by
  refine lc_rdN d m k (fun σ0 H0 R d0 m0 kk => h σ0 H0 R d0 m0 fun J ws Gm mu1 H1 hI c1 m1 iw => kk J ws Gm mu1 H1 (fun D hD => ?_) c1 m1 iw)
  obtain ⟨I, i0, ig, it, ie⟩ := hI D hD
  refine ⟨I, i0, ig, fun i w acc mu' hw q => ?_, ie⟩
  obtain ⟨hl, G2, hb, he⟩ := it i w acc mu' hw q
  refine ⟨hl, fun σ' H' v R dw m3 dv r1 r2 => gT_run T hb ha dw dv fun σ2 d2 e2 => ⟨e2.trans wipe_wipe, iteT (B := R none H') fun s Hs C cl fp => he s Hs C cl fp σ2 H' _ d2 m3 fun y r mu4 H4 q4 c4 d4 m4 => r1 r y mu4 H4 c4 m4 d4 q4⟩⟩
theorem se_lcN {scope : Scope} {own : List (Str × Nat)} {tg iter elt : Expr} (T : Tg) (hc : X.calm = true) (hN : X.N.Nodup) (ok : BlkOk X.N X.env.scope scope own) (ha : T.all (fun i => decide (i ∈ own.map (·.2))) = true)
    (hg : ∀ (s : Shared) (H : Hp) (C : Addr) (cl : List (Str × Addr)) (fp : List Addr), PG (X.blk s H scope (compEnvC scope cl C X.env) fp) tg (gT X.K T)) (hs : ∀ x, foldedSetIterable iter X.env x = pure x)
    (h : SI X tg iter G mu (lcPostN (InBlk X scope) T elt (own.map (·.2)) G P)) : SE X (.ListComp elt [⟨tg, iter, [], 0⟩] scope pos) G mu P :=
  SE.mk (pe_lc hc hN piI ok hg (fun _ _ _ _ _ => pts_nil) (fun s H C cl fp => ⟨fun pins s' σ H' Q I h => h s H C cl fp pins s' I⟩) hs) fun σ H Q d m k => lc_tur0N T ha d m k h

/-- a comprehension whose items are new lists, by a function of the items -/
theorem lc_rows {mu1 : Mu} {B : (Cx → Prop) → Prop} {T : Tg} {vs : List Nat} {elt : Expr} {ws : List W} {Gm : Mu → Prop} (g : W → List W) (hG : ∀ mu', Ext mu1 mu' → Gm mu') (hl : ws.length ≤ sizeLine)
    (hs : ∀ w mu', w ∈ ws → Ext mu1 mu' → ∃ G2, T.bind w (wipeG G vs) = some G2 ∧ B fun Y => SE Y elt G2 mu' fun r mu4 => Ext mu' mu4 ∧ ∃ a, r = .m a ∧ mu1 a = none ∧ mu4 a = some (.lst (g w)))
    (hB : ∀ {p q : Cx → Prop}, (∀ Y, p Y → q Y) → B p → B q)
    (hd : ∀ D mu' (rs : List (Addr × W)), mu1 D = none → mu' D = none → Ext mu1 mu' → rs.map (·.2) = ws → (∀ r ∈ rs, mu' r.1 = some (.lst (g r.2)) ∧ mu1 r.1 = none) → P (.m D) (setM mu' D (.lst (rs.map fun r => .m r.1)))) : lcPostN B T elt vs G P ws Gm mu1 := by
  intro D hD
  refine ⟨fun i acc mu' => ∃ rs : List (Addr × W), acc = rs.map (fun r => .m r.1) ∧ rs.map (·.2) = ws.take i ∧ (∀ r ∈ rs, mu' r.1 = some (.lst (g r.2)) ∧ mu1 r.1 = none) ∧ Ext mu1 mu', ⟨[], rfl, rfl, fun r hr => (by cases hr), Ext.refl⟩,
    fun i acc mu' _ ⟨rs, _, _, _, ex⟩ => hG mu' ex, fun i w acc mu' hw ⟨rs, ea, er, hr, ex⟩ => ?_, fun acc mu' ⟨rs, ea, er, hr, ex⟩ hn => ?_⟩
  · have hi : i < ws.length := (List.getElem?_eq_some_iff.mp hw).1
    have l1 : rs.length ≤ i := by
      have := congrArg List.length er
      rw [List.length_map, List.length_take] at this
      omega
    refine ⟨by rw [ea, List.length_map]; omega, ?_⟩
    obtain ⟨G2, h1, h2⟩ := hs w mu' (List.mem_of_getElem? hw) ex
    refine ⟨G2, h1, hB (fun Y hY => hY.imp fun r mu4 ⟨e4, a, e5, h6, h7⟩ => ?_) h2⟩
    refine ⟨rs ++ [(a, w)], by rw [ea, e5, List.map_append]; rfl, by rw [List.map_append, er, List.take_add_one, hw]; rfl, fun q hq => ?_, ex.trans e4⟩
    rcases List.mem_append.mp hq with hq | hq
    · exact ⟨e4 _ _ (hr q hq).1, (hr q hq).2⟩
    · rw [List.mem_singleton.mp hq]; exact ⟨h7, h6⟩
  · subst ea
    rw [List.take_length] at er
    exact hd D mu' rs hD hn ex er hr
abbrev catLV (w1 w2 : W) (mu : Mu) (P : PW1) : Prop := ∃ a b us zs, w1 = .m a ∧ w2 = .m b ∧ mu a = some (.lst us) ∧ mu b = some (.lst zs) ∧ us.length + zs.length ≤ sizeLine ∧ ∀ q, mu q = none → P (.m q) (setM mu q (.lst (us ++ zs)))
theorem catL_w : OpW X rCat catLV := fun w1 w2 x y mu H P Q dx dy m ⟨a, b, us, zs, e1, e2, h1, h2, hl, q⟩ k => by
  subst e1 e2
  have dx : x = .ref a := dx
  have dy : y = .ref b := dy
  subst dx dy
  obtain ⟨xs, hx, d1⟩ := m a _ h1
  obtain ⟨ys, hy, d2⟩ := m b _ h2
  refine ⟨a, b, xs, ys, rfl, rfl, hx, hy, by rw [← d1.length, ← d2.length]; exact hl, fun p hp => ?_⟩
  obtain ⟨c2, m2⟩ := laidC (o := .lst (xs ++ ys)) (c := .lst (us ++ zs)) m hp (newLst (DenAll.append d1 d2))
  exact k _ _ _ _ (q p (m.dom hp)) c2 rfl m2
end
end Dv
set_option Elab.async false
set_option linter.all false
set_option maxRecDepth 100000
/-! A def of one parameter, called by its name. -/
namespace Dv
open PySem PySem.Spec PyProof.Rows L2
structure DefKw (P : Program) (w : World) (K : PySem.W.Frag) (mg : Str → Option Value) (base : Heap) (x nm : Str) (k : Nat) (S : SpW) : Prop where
  ex : ∃ f fd, FnOk P w K mg base CX0 k f fd [nm] (spW K S) ∧ mg x = some (.ref f) ∧ PySem.W.keepIn K (.ref f) = true ∧ ∀ (s : Shared) (u : Value), BindsTo s fd ⟨[], [(nm, u)]⟩ [(nm, u)]
section
variable {X : Cx} {e : Expr} {G : Gs} {mu : Mu} {pos p kpos : Pos} {P : PW1}
theorem se_kw1 {x nm : Str} {k : Nat} {S : SpW} (D : DefKw X.prog X.w X.K X.mg X.base x nm k S) (hr : Room k X.A) (h : SE X e G mu fun w mu1 => S [w] mu1 P)
    (hg : Gl X x := by rfl) (hdb : (x == ("__debug__" : Str)) = false := by decide) (hall : (backToKw pos (keywordEach [⟨some nm, e, kpos⟩] X.env)).all (·.1.isSome) = true := by rfl) (hks : (backToKw pos (keywordEach [⟨some nm, e, kpos⟩] X.env)).filterMap (·.1) = [nm] := by rfl)
    (hpl : ((backTo pos (starEach [] X.env)).any (·.1) || (backToKw pos (keywordEach [⟨some nm, e, kpos⟩] X.env)).any (·.1.isNone)) = false := by rfl) : SE X (.Call (.Name x p) [] [⟨some nm, e, kpos⟩] pos) G mu P := by
  obtain ⟨f, fd, F, hm, hk, hb⟩ := D.ex
  intro σ H Q d m kk pins s I
  refine wpAny_Call_Name_kw (ld_glob I hg hm ?_ hdb)
  have pk : PK X [⟨some nm, e, kpos⟩] (tCons (tE X e) tNil) := pk_cons peE pk_nil
  refine PySem.W.callWith_KW0 (h₀ := X.base) I.ok.mod.kin hk hall (thn (pk.run pos pins s σ H (fun vs H1 => spW X.K S vs H1 Q fun _ _ _ => False) I ?_) fun us s1 ⟨vs, H1, I1, r, q⟩ => ⟨I1.kIn, ?_⟩) hpl
  · exact h σ H _ d m fun v w mu1 H1 h1 c1 d1 m1 => ⟨[w], mu1, P, h1, ⟨v, [], rfl, d1, rfl⟩, m1, kk.step c1⟩
  · rw [hks]
    have hl : us.length = 1 := by rw [← r.length]; exact F.len _ _ _ _ q
    obtain ⟨u, rfl⟩ : ∃ u, us = [u] := by
      match us, hl with
      | [u], _ => exact ⟨u, rfl⟩
    refine wpAny_call (codeAny_mono (F.run X.A X.stack s1 H1 ⟨[], [(nm, u)]⟩ [u] vs Q _ hr I1.env0 (hb s1 u) r q) fun z s' hq => ?_)
    cases z with
    | error e => exact False.elim hq
    | ok fl => cases fl with
      | ret u => exact I1.after hq
      | next => exact False.elim hq
      | brk => exact False.elim hq
      | cont => exact False.elim hq
end
end Dv
set_option Elab.async false
set_option linter.all false
set_option maxRecDepth 100000
/-! Stars over lists, f-strings, is None, bools compared, a global tuple of texts and its index, dict comprehensions of new cells. -/
namespace Dv
open PySem L2
section
variable {X : Cx} {e a b c : Expr} {es : List Expr} {st : Stmt} {sts : List Stmt} {G : Gs} {mu mu' : Mu} {pos p apos cpos : Pos} {P : PW1}
/-- a star over a list cell -/
theorem sa_starL {P : List W → Mu → Prop} {p : Pos} (h : SE X e G mu fun w mu1 => ∃ a us, w = .m a ∧ mu1 a = some (.lst us) ∧ SA X es G mu1 fun ws mu2 => P (us ++ ws) mu2) (hs : starEach (.Starred e p :: es) X.env = (true, eval e X.env) :: starEach es X.env := by rfl) : SA X (.Starred e p :: es) G mu P :=
  SA.mk (StX.pa_star peE paA hs) fun σ H Q d m k => h σ H _ d m fun v w mu1 H1 ⟨a, us, e1, e2, h1⟩ c1 d1 m1 => by
    subst e1
    have d1 : v = .ref a := d1
    obtain ⟨xs, hx, dx⟩ := m1 a _ e2
    exact ⟨a, xs, d1, .inr (SqL.of hx), h1 σ H1 _ (c1.denG m d) m1 fun vs ws mu2 H2 h2 c2 d2 m2 => k _ _ _ _ h2 (c1.trans c2) (DenAll.append (c2.denAll m1 dx) d2) m2⟩
/-! f-strings -/
theorem se_fmt (h : SE X e G mu fun w mu1 => (∃ y, w = .str y ∧ y.length ≤ sizeLine ∧ P (.str y) mu1) ∨ ∃ i : Int, w = .int i ∧ i.natAbs.log2 < 1920 ∧ P (.str (toString i)) mu1) : SE X (.FormattedValue e (-1) none pos) G mu P :=
  SE.mk (pe_fmt peE) fun σ H Q d m k => h σ H _ d m fun v w mu1 H1 h1 c1 d1 m1 => by
    rcases h1 with ⟨y, rfl, hl, q⟩ | ⟨i, rfl, hl, q⟩
    · exact .inl ⟨y, d1, hl, k _ _ _ _ q c1 rfl m1⟩
    · exact .inr ⟨i, d1, hl, k _ _ _ _ q c1 rfl m1⟩
def SJs (X : Cx) : List Expr → Str → Gs → Mu → (Str → Mu → Prop) → Prop
  | [], acc, _, mu, Post => Post acc mu
  | e :: es, acc, G, mu, Post => SE X e G mu fun w mu1 => ∃ y, w = .str y ∧ (acc ++ y).length ≤ sizeLine ∧ SJs X es (acc ++ y) G mu1 Post
theorem pj_all : ∀ es : List Expr, PJ X es (es.map fun e => tE X e)
  | [] => .nil
  | _ :: es => .cons peE (pj_all es)
theorem sjs_rd : ∀ (es : List Expr) {acc : Str} {mu : Mu} {σ : St} {H : Hp} {Post : Str → Mu → Prop} {Q : Str → Hp → Prop}, SJs X es acc G mu Post → DenG X.K H G σ → HM X.K H mu →
    (∀ y mu' H', Post y mu' → Chg mu H mu' H' → HM X.K H' mu' → Q y H') → tJs (es.map fun e => tE X e) acc σ H Q
  | [], acc, mu, σ, H, Post, Q, h, d, m, k => k acc mu H h Chg.refl m
  | e :: es, acc, mu, σ, H, Post, Q, h, d, m, k => by
    show tE X e σ H _
    refine (show SE X e G mu _ from h) σ H _ d m fun v w mu1 H1 ⟨y, e1, hl, h1⟩ c1 d1 m1 => ?_
    subst e1
    exact ⟨y, d1, hl, sjs_rd es h1 (c1.denG m d) m1 fun z mu2 H2 h2 c2 m2 => k z mu2 H2 h2 (c1.trans c2) m2⟩
theorem se_joined {v1 v2 : Expr} {rest : List Expr} (h : SJs X (v1 :: v2 :: rest) Str.empty G mu fun y mu1 => P (.str y) mu1) : SE X (.JoinedStr (v1 :: v2 :: rest) pos) G mu P :=
  SE.mk (pe_joined (pj_all _)) fun σ H Q d m k => sjs_rd _ h d m fun y mu1 H1 h1 c1 m1 => k _ _ _ _ h1 c1 rfl m1
/-! is None; bools and ints and texts compared -/
def isNo : W → Bool
  | .non => true
  | _ => false
theorem isNo_den {K : PySem.W.Frag} {H : Hp} {w : W} {x : V} (d : Den K H w x) : decide (x = V.non) = isNo w := by
  cases w with
  | non => have d : x = _ := d; subst d; rfl
  | bl b => have d : x = _ := d; subst d; rfl
  | int i => have d : x = _ := d; subst d; rfl
  | str z => have d : x = _ := d; subst d; rfl
  | m a => have d : x = _ := d; subst d; rfl
  | tup ws => obtain ⟨a, xs, e, _⟩ := d; subst e; rfl
theorem isN_w : OpW X (fun x y H Q => y = .non ∧ Q (.bl (decide (x = .non))) H) fun w1 w2 mu P => w2 = .non ∧ ∀ b, b = isNo w1 → P (.bl b) mu := fun w1 w2 x y mu H P Q dx dy m ⟨e, q⟩ k => by
  subst e
  have dy : y = .non := dy
  exact ⟨dy, by rw [isNo_den dx]; exact k.now (q _ rfl) rfl m⟩
theorem notN_w : OpW X (fun x y H Q => y = .non ∧ Q (.bl (!decide (x = .non))) H) fun w1 w2 mu P => w2 = .non ∧ ∀ b, b = (!isNo w1) → P (.bl b) mu := fun w1 w2 x y mu H P Q dx dy m ⟨e, q⟩ k => by
  subst e
  have dy : y = .non := dy
  exact ⟨dy, by rw [isNo_den dx]; exact k.now (q _ rfl) rfl m⟩
theorem neB_w : OpW X rNe fun w1 w2 mu P => ∃ i j, w1 = .bl i ∧ w2 = .bl j ∧ ∀ b, b = (i != j) → P (.bl b) mu := fun w1 w2 x y mu H P Q dx dy m ⟨i, j, e1, e2, q⟩ k => by
  subst e1 e2
  have dx : x = .bl i := dx
  have dy : y = .bl j := dy
  subst dx dy
  refine ⟨rfl, ?_⟩
  rw [dec_bl]
  exact k.now (q _ rfl) rfl m
theorem eqT_w : OpW X rEq fun w1 w2 mu P => ∃ i j, w1 = .str i ∧ w2 = .str j ∧ ∀ b, b = decide (i = j) → P (.bl b) mu := fun w1 w2 x y mu H P Q dx dy m ⟨i, j, e1, e2, q⟩ k => by
  subst e1 e2
  have dx : x = .str i := dx
  have dy : y = .str j := dy
  subst dx dy
  refine ⟨rfl, ?_⟩
  have : decide (V.str i = V.str j) = decide (i = j) := by
    rw [Bool.eq_iff_iff, decide_eq_true_iff, decide_eq_true_iff]
    exact ⟨fun e => by injection e, fun e => by rw [e]⟩
  rw [this]
  exact k.now (q _ rfl) rfl m
theorem eqN_w : OpW X rEq fun w1 w2 mu P => ∃ i j, w1 = .int i ∧ w2 = .int j ∧ ∀ b, b = (i == j) → P (.bl b) mu := fun w1 w2 x y mu H P Q dx dy m ⟨i, j, e1, e2, q⟩ k => by
  subst e1 e2
  have dx : x = .int i := dx
  have dy : y = .int j := dy
  subst dx dy
  refine ⟨rfl, ?_⟩
  rw [dec_int]
  exact k.now (q _ rfl) rfl m
theorem cmpN_w {g : Int → Int → Bool} : OpW X (rI0 fun i j => V.bl (g i j)) fun w1 w2 mu P => ∃ i j, w1 = .int i ∧ w2 = .int j ∧ ∀ b, b = g i j → P (.bl b) mu := fun w1 w2 x y mu H P Q dx dy m ⟨i, j, e1, e2, q⟩ k => by
  subst e1 e2
  exact cmpI_w (.int i) (.int j) x y mu H P Q dx dy m (q _ rfl) k
/-! a global tuple of texts -/
structure KTup (K : PySem.W.Frag) (mg : Str → Option Value) (x : Str) (ys : List Str) : Prop where
  ex : ∃ a o its n, mg x = some (.ref a) ∧ K.lookup a = some o ∧ o.cls = .type "tuple" ∧ o.dict = none ∧ o.data = .seq its n ∧ its.size ≤ sizeLine ∧ Vals (ys.map V.str) its.toList
theorem den_strs {K : PySem.W.Frag} {H : Hp} : ∀ ys : List Str, DenAll K H (ys.map W.str) (ys.map V.str)
  | [] => rfl
  | _ :: ys => ⟨_, _, rfl, rfl, den_strs ys⟩
theorem se_globT {x : Str} {ys : List Str} (T : KTup X.K X.mg x ys) (h : P (.tup (ys.map W.str)) mu) (hg : Gl X x := by rfl) (hd : (x == ("__debug__" : Str)) = false := by decide) : SE X (.Name x pos) G mu P := by
  obtain ⟨a, o, its, n, hm, hk, hc, _, hs, hz, r⟩ := T.ex
  exact SE.mk (pe_glob hg hm (v := .ref a) rfl hd) fun σ H Q d m k => k.now h ⟨a, _, rfl, .inr ⟨o, its, n, hk, hc, hs, hz, r⟩, den_strs ys⟩ m
theorem se_globIndex {x : Str} {ys : List Str} (T : KTup X.K X.mg x ys) (h : SE X e G mu fun w mu1 => ∃ z j, w = .str z ∧ ys[j]? = some z ∧ (∀ m, m < j → ys[m]? ≠ some z) ∧ P (.int (j : Nat)) mu1) (hg : Gl X x := by rfl) (hd : (x == ("__debug__" : Str)) = false := by decide)
    (hb : attributeBase (.Name x p) "index" X.env (eval (.Name x p) X.env) = eval (.Name x p) X.env := by rfl) (hq : (((backTo cpos (starEach [e] X.env)).all fun x => !x.1) && (backToKw cpos (keywordEach [] X.env)).all (fun x => x.1.isSome) && decide (([e].length + ([] : List Keyword).length + if ([] : List Keyword).isEmpty = true then 0 else 1) < 30)) = true := by rfl)
    (hl : (apos.endLine == cpos.line) = true := by rfl) (he : starEach [e] X.env = (false, eval e X.env) :: starEach [] X.env := by rfl) (hpl : (backTo cpos (starEach [] X.env)).any (·.1) = false := by rfl) : SE X (.Call (.Attribute (.Name x p) "index" apos) [e] [] cpos) G mu P := by
  obtain ⟨a, o, its, n, hm, hk, hc, hdc, hs, hz, r⟩ := T.ex
  refine SE.mk (pe_bm PySem.F.plainAttrs_tuple PySem.F.slot_tuple_index PySem.F.type_tuple_index mt_tup_index (pe_glob hg hm (v := .ref a) rfl hd) (pa_cons peE pa_nil he) hb hq hl he hpl) fun σ H Q d m k => ?_
  refine ⟨.inr (.inl ⟨rfl, o, hk, hc, hdc⟩), ?_⟩
  refine h σ H _ d m fun v w mu1 H1 ⟨z, j, e1, h1, h2, h3⟩ c1 d1 m1 => ?_
  subst e1
  have d1 : v = .str z := d1
  subst d1
  exact ⟨a, ys, z, j, rfl, rfl, .inr ⟨o, its, n, hk, hc, hs, hz, r⟩, h1, h2, k _ _ _ _ h3 c1 rfl m1⟩
/-! a dict comprehension, and the new dict's own place is told to be free until the end -/
abbrev dcPostN (B : (Cx → Prop) → Prop) (T : Tg) (kx vx : Expr) (vs : List Nat) (G : Gs) (P : PW1) : List W → (Mu → Prop) → Mu → Prop := fun ws Gm mu1 => ∀ D, mu1 D = none → ∃ I : Nat → List (Key × W) → Mu → Prop, I 0 [] mu1 ∧ (∀ i acc mu', i ≤ ws.length → I i acc mu' → Gm mu') ∧
  (∀ i w acc mu', ws[i]? = some w → I i acc mu' → acc.length < sizeLine ∧ (acc.map (·.1)).Nodup ∧ ∃ G2, T.bind w (wipeG G vs) = some G2 ∧ B fun Y => SE Y kx G2 mu' fun kw mu3 => ∃ k, keyOf kw = some k ∧ B fun Z => SE Z vx G2 mu3 fun r mu4 => I (i + 1) (putW acc k r) mu4) ∧
  ∀ acc mu', I ws.length acc mu' → mu' D = none → P (.m D) (setM mu' D (.dic acc))
theorem dc_rdN {scope : Scope} {own : List (Str × Nat)} {tg iter kx vx : Expr} (T : Tg) {P : PW1} {σ : St} {H : Hp} {Q : VK} (ha : T.all (fun i => decide (i ∈ own.map (·.2))) = true) (d : DenG X.K H G σ) (m : HM X.K H mu) (k : Kont X.K mu H P Q)
    (h : SI X tg iter G mu (dcPostN (InBlk X scope) T kx vx (own.map (·.2)) G P)) :
    tDc (tI X tg iter) (gT X.K T) tYes (fun σ2 H2 Q2 => ∀ (s : Shared) (H : Hp) (C : Addr) (cl : List (Str × Addr)) (fp : List Addr), tE (X.blk s H scope (compEnvC scope cl C X.env) fp) kx σ2 H2 Q2)
      (fun σ2 H2 Q2 => ∀ (s : Shared) (H : Hp) (C : Addr) (cl : List (Str × Addr)) (fp : List Addr), tE (X.blk s H scope (compEnvC scope cl C X.env) fp) vx σ2 H2 Q2) (own.map (·.2)) σ H Q := by
  refine h σ H _ d m fun J ws Gm mu1 H1 hI c1 m1 ⟨Gh, Y, wk, hg, hy⟩ D hD => ?_
  obtain ⟨I, i0, ig, it, ie⟩ := hI D (m1.dom hD)
  obtain ⟨c0, m0⟩ := laid (o := .dK []) m1 hD
  refine ⟨fun i n H' => n = ws.length - i ∧ i ≤ ws.length ∧ ∃ acc mu' xs, I i acc mu' ∧ H' D = some (.dK xs) ∧ DKV X.K H' acc xs ∧ mu' D = none ∧ HM X.K H' mu' ∧ Chg mu1 H1 mu' H',
    ⟨ws.length, by simp, Nat.zero_le _, [], mu1, [], i0, upd_same, ⟨rfl, rfl⟩, m1.dom hD, m0, c0⟩, ?_⟩
  rintro i n H' ⟨rfl, hi, acc, mu', xs, q, hx, dx, nD, m2, c2⟩
  have gh := hg mu' H' c2 m2 (ig i acc mu' hi q)
  by_cases hlt : i < ws.length
  · refine .inr ⟨wk.goes i H' hlt gh, fun H' => ∃ acc mu' xs, I (i + 1) acc mu' ∧ H' D = some (.dK xs) ∧ DKV X.K H' acc xs ∧ mu' D = none ∧ HM X.K H' mu' ∧ Chg mu1 H1 mu' H', fun H'' hN => ⟨ws.length - (i + 1), by omega, rfl, hlt, hN⟩, fun x H'' y => ?_⟩
    obtain ⟨w, hw, c3, m3, d3⟩ := hy i H' x H'' mu' hlt c2 m2 (ig i acc mu' hi q) (wk.yields i H' x H'' hlt gh y)
    obtain ⟨hl, hn, G2, hb, he⟩ := it i w acc mu' hw q
    have dw : DenG X.K H'' (wipeG G (own.map (·.2))) (wipe σ (own.map (·.2))) := c3.denG m2 (c2.denG m1 (c1.denG m (wipeG_den d _)))
    refine gT_run T hb ha dw d3 fun σ2 d2 e2 => ⟨e2.trans wipe_wipe, ?_⟩
    simp only [tYes, if_true]
    intro s Hs C cl fp
    refine he s Hs C cl fp σ2 H'' _ d2 m3 fun kv kw mu4 H4 h4 c4 d4 m4 s' Hs' C' cl' fp' => ?_
    obtain ⟨kk, hk, hv⟩ := h4
    refine hv s' Hs' C' cl' fp' σ2 H4 _ (c4.denG m3 d2) m4 fun v r mu5 H5 h5 c5 d5 m5 => ?_
    have hx5 := c5.keep _ _ (c4.keep _ _ (c3.keep _ _ hx nD) nD) (c4.new _ _ (c3.keep _ _ hx nD) nD)
    have nD5 := c5.new _ _ (c4.keep _ _ (c3.keep _ _ hx nD) nD) (c4.new _ _ (c3.keep _ _ hx nD) nD)
    have dx5 : DKV X.K H5 acc xs := ⟨dx.1, c5.denAll m4 (c4.denAll m3 (c3.denAll m2 dx.2))⟩
    have sq : ∀ a ys, SqT X.K H5 a ys → SqT X.K (upd H5 D (.dK (putK xs kk v))) a ys := fun a ys s => by
      rcases s with (s | ⟨o, s⟩) | s
      · exact .inl (.inl (by rw [upd_ne (ne_of s hx5 (by intro z; cases z))]; exact s))
      · exact .inl (.inr ⟨o, by rw [upd_ne (ne_of s hx5 (by intro z; cases z))]; exact s⟩)
      · exact .inr s
    have cc := ((c2.trans c3).trans c4).trans c5
    refine ⟨xs, kk, keyOf_den hk d4, hx5, ?_, putW acc kk r, mu5, putK xs kk v, h5, upd_same, ?_, nD5, fun a cc ha => CellOk.mono sq (m5 a cc ha) (upd_ne fun z => by subst z; rw [nD5] at ha; cases ha), ⟨fun b o e n => by rw [upd_ne (ne_of_none e hD)]; exact cc.keep b o e n, cc.old, cc.new⟩⟩
    · have := congrArg List.length dx.1
      simp only [List.length_map] at this
      omega
    · have := dx5.put hn d5 (k := kk)
      exact ⟨this.1, DenAll.mono sq _ this.2⟩
  · have ei : i = ws.length := by omega
    subst ei
    refine .inl ⟨wk.stops H' gh, k (.ref D) (.m D) (setM mu' D (.dic acc)) H' (ie acc mu' q nD) (c1.trans ⟨c2.keep, fun b cc e => ?_, fun b o e n => ?_⟩) rfl fun a cc ha => ?_⟩
    · by_cases z : b = D
      · subst z; exact ⟨_, setM_same⟩
      · rw [setM_ne z]; exact c2.old b cc e
    · rw [setM_ne (ne_of_none e hD)]
      exact c2.new b o e n
    · by_cases z : a = D
      · subst z
        rw [setM_same] at ha
        cases ha
        exact ⟨xs, hx, dx.1, dx.2⟩
      · rw [setM_ne z] at ha
        exact m2 a cc ha
theorem se_dcN {scope : Scope} {own : List (Str × Nat)} {tg iter kx vx : Expr} (T : Tg) (hc : X.calm = true) (hN : X.N.Nodup) (ok : BlkOk X.N X.env.scope scope own) (ha : T.all (fun i => decide (i ∈ own.map (·.2))) = true)
    (hg : ∀ (s : Shared) (H : Hp) (C : Addr) (cl : List (Str × Addr)) (fp : List Addr), PG (X.blk s H scope (compEnvC scope cl C X.env) fp) tg (gT X.K T)) (hs : ∀ x, foldedSetIterable iter X.env x = pure x)
    (h : SI X tg iter G mu (dcPostN (InBlk X scope) T kx vx (own.map (·.2)) G P)) : SE X (.DictComp kx vx [⟨tg, iter, [], 0⟩] scope pos) G mu P :=
  SE.mk (pe_dc hc hN piI ok hg (fun _ _ _ _ _ => pts_nil) (fun s H C cl fp => ⟨fun pins s' σ H' Q I h => h s H C cl fp pins s' I⟩) (fun s H C cl fp => ⟨fun pins s' σ H' Q I h => h s H C cl fp pins s' I⟩) hs) fun σ H Q d m k => dc_rdN T ha d m k h
open PySem.Spec PyProof PyProof.Rows in
/-- name = {..: ..} on one line, the name a local -/
theorem ps_setDc {i : Nat} {y : Str} {py : Pos} {kx vx tg iter : Expr} {ifs : List Expr} {scope : Scope} {own : List (Str × Nat)} {pos spos : Pos} {wi : TI} {g : TG} {tt : TT} {tk tv : TE} (hc : X.calm = true) (hN : X.N.Nodup) (hy : X.N[i]? = some y) (hyl : X.env.scope.names.lookup y = some .local)
    (hsw : swapsWith (.DictComp kx vx [⟨tg, iter, ifs, 0⟩] scope pos) (some (.Name y py)) spos.line X.env = pure true) (hi : PI X tg iter wi) (ok : BlkOk X.N X.env.scope scope own)
    (hg : ∀ (s : Shared) (H : Hp) (C : Addr) (cl : List (Str × Addr)) (fp : List Addr), PG (X.blk s H scope (compEnvC scope cl C X.env) fp) tg g) (ht : ∀ (s : Shared) (H : Hp) (C : Addr) (cl : List (Str × Addr)) (fp : List Addr), PTs (X.blk s H scope (compEnvC scope cl C X.env) fp) ifs tt)
    (hk : ∀ (s : Shared) (H : Hp) (C : Addr) (cl : List (Str × Addr)) (fp : List Addr), PE (X.blk s H scope (compEnvC scope cl C X.env) fp) kx tk)
    (he : ∀ (s : Shared) (H : Hp) (C : Addr) (cl : List (Str × Addr)) (fp : List Addr), PE (X.blk s H scope (compEnvC scope cl C X.env) fp) vx tv) (hs : ∀ x, foldedSetIterable iter X.env x = pure x := by intro _; rfl) :
    PS X (.Assign [.Name y py] (.DictComp kx vx [⟨tg, iter, ifs, 0⟩] scope pos) spos) (tAsg (tDc wi g tt tk tv (own.map (·.2))) (gName i)) := by
  refine ⟨fun pins s σ H D I h => ?_⟩
  rw [exec_Assign_Name_used _ _ _ _ hsw]
  refine wpAny_bind (wpAny_standAt (wpAny_bind ?_))
  show wpAny _ X.A (do let _ ← comprehension (.DictComp kx vx [⟨tg, iter, ifs, 0⟩] scope pos) scope X.env (firstIterPos [⟨tg, iter, ifs, 0⟩] pos) newDict false (eval iter X.env) (some (assign (.Name y py) X.env))) _ _ s
  have h : tDc wi g tt tk tv (own.map (·.2)) σ H (fun x H1 => gName i x σ H1 D.nx) := h
  refine wpAny_bind (thn (dc_core (Qf := fun _ s' => SP X pins D .next s') hc hN I hi ok hg ht hk he hs h fun L C s' m H' I' q hn f => ?_) fun _ s' hq => wpAny_pure (wpAny_pure hq))
  show wpAny _ _ (assign (.Name y py) X.env (.ref L)) _ _ _
  refine wpAny_assign_Name (store_ok2 (v := V.ref L) I' hN hy (.inl hyl) rfl (fun s2 I2 ⟨a, sb, ha⟩ => ?_) (.inr hyl))
  obtain ⟨f0, f1, f2, f3, f4, f5⟩ := f
  have haC : C ≠ a := by
    rcases ha with z | z
    · rw [z]; exact f1
    · exact fun e => f4 y a z e.symm
  refine ⟨m, hn.sameBut sb haC, fun h3 sb3 => ?_⟩
  exact ⟨_, H', I2.turned (t' := s2.toks) (fun b o hb e => (sb3.2 b hb).trans e) f0 f1 f3 f4 f5, q⟩
theorem sw_trueD {kx vx : Expr} {gs : List Comprehension} {scope : Scope} {pos py : Pos} {y : Str} {l : Nat} {env : Env} (hk : env.scope.kind = .function) (hy : env.scope.names.lookup y = some .local) (hl : (py.line == pos.line) = true)
    (ha : (scope.names.any fun (n, k) => n == y && (k == .local || k == .cell)) = false) : swapsWith (.DictComp kx vx gs scope pos) (some (.Name y py)) l env = pure true := by
  have ky : env.kindOf y = some .local := hy
  have hb : env.blockKind = .function := by unfold Env.blockKind; rw [hk]; rfl
  unfold swapsWith
  simp only [hb, ky, ha, Expr.pos, hl]
  rfl
theorem ss_setdc {E : WE} {i : Nat} {y : Str} {py spos : Pos} {scope : Scope} {own : List (Str × Nat)} {tg iter kx vx : Expr} (T : Tg) (hc : X.calm = true) (hN : X.N.Nodup) (hy : X.N[i]? = some y) (hyl : X.env.scope.names.lookup y = some .local)
    (hsw : swapsWith (.DictComp kx vx [⟨tg, iter, [], 0⟩] scope pos) (some (.Name y py)) spos.line X.env = pure true) (ok : BlkOk X.N X.env.scope scope own) (ha : T.all (fun i => decide (i ∈ own.map (·.2))) = true)
    (hg : ∀ (s : Shared) (H : Hp) (C : Addr) (cl : List (Str × Addr)) (fp : List Addr), PG (X.blk s H scope (compEnvC scope cl C X.env) fp) tg (gT X.K T)) (hs : ∀ x, foldedSetIterable iter X.env x = pure x)
    (h : SI X tg iter G mu (dcPostN (InBlk X scope) T kx vx (own.map (·.2)) G fun w mu1 => E.nx (G.set i (some w)) mu1)) : SS X (.Assign [.Name y py] (.DictComp kx vx [⟨tg, iter, [], 0⟩] scope pos) spos) G mu E :=
  SS.mk (ps_setDc hc hN hy hyl hsw piI ok hg (fun _ _ _ _ _ => pts_nil) (fun s H C cl fp => ⟨fun pins s' σ H' Q I h => h s H C cl fp pins s' I⟩) (fun s H C cl fp => ⟨fun pins s' σ H' Q I h => h s H C cl fp pins s' I⟩) hs) fun σ H D d m k =>
    dc_rdN (P := fun w mu1 => E.nx (G.set i (some w)) mu1) T ha d m (fun v w mu1 H1 h1 c1 d1 m1 => k.nx _ _ _ _ h1 c1 (DenG.set (c1.denG m d) d1) m1) h
end
end Dv
set_option Elab.async false
set_option linter.all false
set_option maxRecDepth 100000
/-! A def of one parameter: called by place and by name. -/
namespace Dv
open PySem PySem.Spec PyProof.Rows L2
section
variable {P : Program} {w : World} {K : PySem.W.Frag} {mg : Str → Option Value} {base : Heap}
theorem dfnBoth {x nm : Str} {st : Stmt} {N : List Str} {k : Nat} {S : SpW} (D : Dfn K mg x st [nm]) (Sc : FnScope N [nm] (defScope st))
    (hkw : ∀ (kV doc pm : Value) (an : Option Addr) (cdv ct : Value) (s : Shared) (u : Value), BindsTo s (PySem.W.fnOf x x (defArgs st) (defBody st) (defScope st) .none kV doc pm an cdv ct) ⟨[], [(nm, u)]⟩ [(nm, u)])
    (len : ∀ ws mu P, S ws mu P → ws.length = [nm].length)
    (body : ∀ (f : Addr) (cdv : Value) (A : Around) (outer : List Env) (s : Shared) (H : Hp) (E : XK), Room k (A.deeper (PyProof.Rows.envOfC x (defScope st) s.heap.objs.size f cdv)) → ∀ ws mu Pt, S ws mu Pt →
      SSs (cxOf CX0 P w K mg base N x (defScope st) f cdv A outer s H E).nox (defBody st) (startW N ws) mu { nx := fun _ mu' => Pt .non mu', rt := Pt }) : DefOk P w K mg base x [nm] (k + 1) S ∧ DefKw P w K mg base x nm (k + 1) S := by
  obtain ⟨f, fd, F, hm, hb⟩ := D.ex
  refine ⟨⟨f, fd, okW F Sc len (body f), hm, F.kp, hb⟩, ⟨f, fd, okW F Sc len (body f), hm, F.kp, ?_⟩⟩
  obtain ⟨oc, od, kV, doc, pm, an, cdv, ct, osl, efd, lk, hcd⟩ := F.ex
  subst efd
  exact fun s u => hkw _ _ _ _ _ _ s u
end
end Dv
set_option Elab.async false
set_option linter.all false
set_option maxRecDepth 100000
/-! sorted(set(xs)) of texts, any number. -/
namespace TO
open PySem PySem.Spec PyProof.Rows L2 PySem.Froz
/-- a set of texts whose places rise -/
structure TxR (pr : Program) (ww : World) (h : Heap) (a : Addr) (l : List Str) : Prop where
  ex : ∃ D : SD, h.get? a = some (sObj "set" D) ∧ TxOk pr ww D l ∧ Ris D.2.2.place.toList ∧ (ww.params.followText "set-order" = true ∨ D.2.2.led = true)
theorem TxR.keep {pr : Program} {ww : World} {h h' : Heap} {a : Addr} {l : List Str} (R : TxR pr ww h a l) (k : ∀ o, h.get? a = some o → h'.get? a = some o) : TxR pr ww h' a l := by
  obtain ⟨D, h1, h2⟩ := R.ex
  exact ⟨D, k _ h1, h2⟩
theorem tail_ris {ep : Nat} {es : Array (Int × Value)} {t : SetTable} {b : Bool} (r : Ris t.place.toList) : Ris (tailTx ep es t b).2.2.place.toList ∧ (tailTx ep es t b).2.2.led = t.led := by
  unfold tailTx
  by_cases c : (!b && t.tooFull) = true
  · rw [if_pos c]; exact ⟨relayAll_ris t es _, relayAll_led t es _⟩
  · rw [if_neg c]; exact ⟨r, rfl⟩
theorem add_ris {D : SD} {h : Int} {v : Value} (r : Ris D.2.2.place.toList) : Ris (addTx h v D).2.2.place.toList ∧ (addTx h v D).2.2.led = D.2.2.led := by
  have h1 := layNew_ris D.2.2 D.1 h v r
  have h2 := layNew_led D.2.2 D.1 h v
  unfold addTx
  by_cases c : (layNew D.2.2 D.1 h v).2.1.plain = true
  · rw [if_pos c]
    have q := tail_ris (ep := D.2.1) (es := (layNew D.2.2 D.1 h v).1) (t := { (layNew D.2.2 D.1 h v).2.1 with plain := false }) (b := (layNew D.2.2 D.1 h v).2.2.1) h1
    exact ⟨q.1, q.2.trans h2⟩
  · rw [if_neg c]
    have q := tail_ris (ep := D.2.1) (es := (layNew D.2.2 D.1 h v).1) (t := (layNew D.2.2 D.1 h v).2.1) (b := (layNew D.2.2 D.1 h v).2.2.1) h1
    exact ⟨q.1, q.2.trans h2⟩
section
variable {pr : Program} {ww : World} {A : Around} {E : Value → Shared → Prop} {s : Shared}
/-- a text that is a member already -/
theorem add_old {a : Addr} {D : SD} {l : List Str} {k : Str} {u : Tok} {Q : Bool → Shared → Prop} (ho : s.heap.get? a = some (sObj "set" D)) (F : TxOk pr ww D l) (hk : k ∈ l) (hb : l.length < scanBound) (h : Q false s) : wpAny (model pr ww) A (setAddHashed a (.str k u) (hashStr ww k)) Q E s := by
  obtain ⟨es, ep, t⟩ := D
  have hsz : es.size < scanBound := by have : es.size = l.length := F.sz; omega
  have key : (strKind pr ww).is k (.str k u) = true := is_str k u
  obtain ⟨e, he, hi⟩ := (F.mem k).mp hk
  have some1 : ∃ j, List.findIdx? (fun e => (strKind pr ww).is k e.2) es.toList = some j := by
    cases q : List.findIdx? (fun e => (strKind pr ww).is k e.2) es.toList with
    | some j => exact ⟨j, rfl⟩
    | none => exact absurd hi (by simpa using List.findIdx?_eq_none_iff.mp q e he)
  obtain ⟨j, hj⟩ := some1
  unfold setAddHashed
  refine wpAny_holding ?_
  unfold setAddHashedIn
  refine wpAny_bind (wpAny_setState_of (o := sObj "set" (es, ep, t)) ho rfl F.fit ?_)
  dsimp only
  rw [byScan_of (knd := strKind pr ww) rfl hsz F.el, if_pos rfl]
  unfold setAddByScan
  refine wpAny_bind (wpAny_bind (wpAny_rule (wpAny_bind ((show wpAny (model pr ww) A (setScan a (.str k u) ((strKind pr ww).hash k) true es) _ E s from wpAny_setScan_of (knd := strKind pr ww) key ho rfl F.fit F.el (by
    rw [hj]
    exact wpAny_pure (wpAny_pure h)))))))
theorem add_any {a : Addr} {l : List Str} {k : Str} {u : Tok} {Q : Bool → Shared → Prop} (R : TxR pr ww s.heap a l) (hb : l.length + 1 < scanBound)
    (h : ∀ b h' l', Heap.SameBut a s.heap h' → TxR pr ww h' a l' → (∀ y, y ∈ l' ↔ y = k ∨ y ∈ l) → l'.length ≤ l.length + 1 → Q b { s with heap := h' }) : wpAny (model pr ww) A (setAddHashed a (.str k u) (hashStr ww k)) Q E s := by
  obtain ⟨D, ho, F, r, lg⟩ := R.ex
  by_cases hk : k ∈ l
  · refine add_old ho F hk (by omega) ?_
    exact h false s.heap l ⟨rfl, fun b hb => rfl⟩ R (fun y => ⟨.inr, fun q => q.elim (fun e => e ▸ hk) id⟩) (Nat.le_succ _)
  · refine add_x ho F hk hb ?_
    have r2 := add_ris (h := hashStr ww k) (v := .str k u) r
    refine h true _ (k :: l) ?_ ⟨addTx (hashStr ww k) (.str k u) D, get_upd _ ho rfl, add_ok u F, r2.1, lg.imp id fun q => r2.2.trans q⟩ (fun y => List.mem_cons) (by simp)
    exact Heap.SameBut.update _ _ _
theorem fresh_r {h : Heap} {a : Addr} (ho : h.get? a = some (TxSet.bare (!ww.params.followText "set-order"))) : TxR pr ww h a [] :=
  ⟨(#[], 0, .fresh 0 0 (!ww.params.followText "set-order")), ho, .nil rfl, List.Pairwise.nil, by
    show _ ∨ (!ww.params.followText "set-order") = true
    cases ww.params.followText "set-order"
    · exact .inr rfl
    · exact .inl rfl⟩
/-- one text after another -/
theorem fillR {R : Result → Shared → Prop} {I D : Addr} {fp wr : List Addr} {G : Array GenState → Array GenState → Prop} {m : Nat} {Pv : Nat → Value → Prop} {St : Nat → Shared → Prop}
    (Wk : WalksS pr ww A.in1 I fp wr G m Pv St) (hD : D ∉ fp) (xs : List Str) (hm : xs.length = m) (few : m + 1 < scanBound) (hP : ∀ i v, Pv i v → ∃ x t, xs[i]? = some x ∧ v = .str x t) :
    ∀ (left i : Nat) (sh : Shared), m - i = left → i ≤ m → St i sh → (∃ l, TxR pr ww sh.heap D l ∧ l.length ≤ i ∧ ∀ y, y ∈ l ↔ y ∈ xs.take i) →
      (∀ sh2, Moved (D :: wr) G sh sh2 → (∃ l, TxR pr ww sh2.heap D l ∧ l.length ≤ m ∧ ∀ y, y ∈ l ↔ y ∈ xs) → R (.ok (.ret .none)) sh2) → codeAny (model pr ww) A (.builtin "set.update.loop" ⟨[.ref D, .ref I], []⟩) R sh := by
  have outw : D ∉ wr := fun z => hD (Wk.sub _ z)
  have more : ∀ b ∈ wr, b ∈ D :: wr := fun b z => List.mem_cons_of_mem _ z
  intro left
  induction left with
  | zero =>
    rintro i sh z0 hi st ⟨l, hS, ll, lm⟩ fin
    have e : i = m := by omega
    subst e
    (refine codeAny_builtin F.entry_set_update_loop ?_; rw [Around.under_plainId F.plain_set_update_loop _])
    show wpAny _ A.in1 (pyNext (.ref I) >>= _) _ _ sh
    refine wpAny_bind (Wk.done sh _ _ st fun sh2 mv => ?_)
    show wpAny _ A.in1 (ret Value.none) _ _ sh2
    rw [← hm, List.take_length] at lm
    exact wpAny_pure (fin sh2 (mv.mono more) ⟨l, hS.keep fun o e => mv.heap D o outw e, by omega, lm⟩)
  | succ left ih =>
    rintro i sh z0 hi st ⟨l, hS, ll, lm⟩ fin
    have lt : i < m := by omega
    (refine codeAny_builtin F.entry_set_update_loop ?_; rw [Around.under_plainId F.plain_set_update_loop _])
    show wpAny _ A.in1 (pyNext (.ref I) >>= _) _ _ sh
    refine wpAny_bind (Wk.item i sh _ _ lt st fun v sh2 hv st2 mv => ?_)
    obtain ⟨x, t, hx, rfl⟩ := hP i v hv
    have hS2 : TxR pr ww sh2.heap D l := hS.keep fun o e => mv.heap D o outw e
    show wpAny _ A.in1 (holding [Value.str x t] (setAdd D (.str x t)) >>= _) _ _ sh2
    (refine wpAny_bind (wpAny_holding ?_); unfold setAdd)
    refine wpAny_holding (wpAny_bind ((strKind pr ww).pyHash (k := x) (strKind_is _ _ _ _) ?_))
    refine add_any (s := { sh2 with toks := sh2.toks + 1 }) hS2 (by omega) fun b h3 l3 same hS3 hm3 hl3 => ?_
    refine wpAny_pure ⟨plainId_quiet F.plain_set_update_loop _, ih (i + 1) _ (by omega) lt (Wk.frame _ sh2 _ _ st2 (Nat.le_succ _) fun b z o e => (same.2 b fun q : b = D => hD (q ▸ z)).trans e) ⟨l3, hS3, by omega, fun y => ?_⟩
      fun sh3 mv3 hS5 => fin sh3 (Moved.trans Wk.gtrans ((mv.mono more).then_heap (Nat.le_succ _) fun b o z e => (same.2 b fun q : b = D => z (by rw [q]; exact List.mem_cons_self)).trans e) mv3) hS5⟩
    rw [hm3, List.take_add_one, hx, List.mem_append, lm]
    simp [or_comm]
end
section
variable {pr : Program} {ww : World} {A : Around} {E : Value → Shared → Prop} {sh : Shared}
set_option maxHeartbeats 3300000 in
theorem newR {ad : Addr} {its : Array Value} {xs : List Str} {Q : Value → Shared → Prop} (noExc : A.handled = none) (hseq : sh.heap.IsList ad its) (tx : StrsAre its.toList xs) (few : its.size + 1 < scanBound)
    (fin : ∀ (h2 : Heap) (t2 : Nat), (∃ l, TxR pr ww h2 sh.heap.objs.size l ∧ l.length ≤ xs.length ∧ ∀ y, y ∈ l ↔ y ∈ xs) → (∀ b o, b < sh.heap.objs.size → sh.heap.get? b = some o → h2.get? b = some o) → Q (.ref sh.heap.objs.size) { sh with heap := h2, toks := t2 }) : wpAny (model pr ww) A (call (.type "set") [.ref ad]) Q E sh := by
  obtain ⟨cc, rest, mro⟩ := F.called_set.mro
  have made := F.called_set.made
  have subS := F.called_set.sub
  (refine wpAny_call (codeAny_of_tree ?_); show wpAny _ _ (callAny (.type "set") _) _ _ sh; refine wpAny_pure ⟨Code.quiet_builtin _ (by decide +kernel), codeAny_builtin F.entry_type_call ?_⟩)
  rw [Around.under_plain (weight_type_call_type "set" [.ref ad] []) rfl]
  have n1 := F.called_set.notType
  have n2 := F.called_set.canCreate
  have n3 := F.typeCall_set_1 (.ref ad)
  repeat any_goals first | assumption | wp_step
  obtain ⟨ld, eld⟩ : ∃ ld, ld = !ww.params.followText "set-order" := ⟨_, rfl⟩
  refine codeAny_mono (code_set_led1 (.ref ad) (E := E) (Q₁ := fun ob sh1 => ob = .ref sh.heap.objs.size ∧ sh1 = { sh with heap := sh.heap.push (TxSet.bare ld) }) ⟨rfl, by rw [eld]⟩) fun r sh1 hr => ?_
  rcases r with ex | fl
  · exact hr
  cases fl with
  | ret ob =>
    obtain ⟨rfl, rfl⟩ := hr
    have at0 : (sh.heap.push (TxSet.bare ld)).get? sh.heap.objs.size = some (TxSet.bare ld) := Heap.get?_push_size _ rfl
    have ty0 : Shared.TypeIs { sh with heap := sh.heap.push (TxSet.bare ld) } (.ref sh.heap.objs.size) "set" := ⟨_, at0, rfl⟩
    have in1 := F.called_set.init.lookup
    have in2 := F.called_set.init.bind (.ref sh.heap.objs.size)
    repeat any_goals first | assumption | wp_step
    refine codeAny_mono (codeAny_call_builtin (R := wants (fun r sh2 => r = .none ∧ ∃ h2 t2, sh2 = { sh with heap := h2, toks := t2 } ∧ (∃ l, TxR pr ww h2 sh.heap.objs.size l ∧ l.length ≤ xs.length ∧ ∀ y, y ∈ l ↔ y ∈ xs) ∧ (∀ b o, b < sh.heap.objs.size → sh.heap.get? b = some o → h2.get? b = some o)) E) F.called_set.init.plain F.entry_set_init (check_set_init_1 ty0 ?_)) fun r2 sh2 hr2 => ?_
    · obtain ⟨⟨oc, odt, oda, osl⟩, hol, hcl, nl, hdl⟩ := hseq
      simp only at hcl hdl
      subst hcl hdl
      have hol2 : (sh.heap.push (TxSet.bare ld)).get? ad = some { cls := .type "list", dict := odt, data := .seq its nl, slots := osl } := Heap.get?_push_of_some _ hol
      have sub1 := PySem.F.sub_list_set
      have sub2 := PySem.F.sub_list_frozenset
      have neD : (Value.type "list" == Value.type "dict") = false := by decide
      have seq2 : (sh.heap.push (TxSet.bare ld)).IsList ad its := ⟨_, hol2, rfl, nl, rfl⟩
      (unfold Builtin.«set.__init__» noKeywords Builtin.Frozenset.updateFrom; generalize ePI : pyIter = PI)
      wp_walk
      subst ePI
      refine wpAny_pyIter_list seq2 (wpAny_bind (wpAny_runValue ?_))
      have adLt : ad < sh.heap.objs.size := Heap.lt_size hol
      have noExc3 : A.in1.in1.in1.handled = none := by simp [noExc]
      have apart : ad ≠ (sh.heap.push (TxSet.bare ld)).objs.size := by rw [Heap.size_push]; exact Nat.ne_of_lt (Nat.lt_succ_of_lt adLt)
      have out : sh.heap.objs.size ∉ [(sh.heap.push (TxSet.bare ld)).objs.size, ad] := by
        rw [Heap.size_push]
        simp only [List.mem_cons, List.mem_singleton, List.not_mem_nil, or_false, not_or]
        exact ⟨Nat.ne_of_lt (Nat.lt_succ_self _), Nat.ne_of_gt adLt⟩
      have lenX : xs.length = its.size := by rw [← StrsAre.len_eq tx, Array.length_toList]
      have each : ∀ (i : Nat) (v : Value), its[i]? = some v → ∃ x t, xs[i]? = some x ∧ v = .str x t := fun i v hv => by
        have il : i < xs.length := by rw [lenX]; exact (Array.getElem?_eq_some_iff.mp hv).1
        obtain ⟨t, e⟩ := SS.strs_at tx i v (by rw [Array.getElem?_toList]; exact hv)
        refine ⟨xs[i], t, List.getElem?_eq_getElem il, ?_⟩
        rw [e, List.getD_eq_getElem?_getD, List.getElem?_eq_getElem il]
        rfl
      refine fillR ((Walks.list noExc3 _ ad apart its).toS) out xs lenX few each (its.size - 0) 0 _ (by omega) (Nat.zero_le _) ⟨⟨_, Heap.get?_push_size _ rfl, rfl, rfl⟩, seq2.push _⟩ ?begin ?after
      case begin =>
        have at1 : ((sh.heap.push (TxSet.bare ld)).push { cls := .type "list_iterator", data := .fields #[.ref ad, .int 0 0] }).get? sh.heap.objs.size = some (TxSet.bare ld) := Heap.get?_push_of_some _ at0
        rw [eld] at at1 ⊢
        exact ⟨[], fresh_r at1, Nat.le_refl _, fun y => by simp⟩
      case after =>
        intro sh3 mv hS
        obtain ⟨h3, g3, d3, t3, o3⟩ := sh3
        have eg : g3 = sh.gens := mv.gens
        have ed : d3 = sh.drawn := mv.drawn
        have eo : o3 = sh.os := mv.os
        subst eg ed eo
        show wpAny _ _ _ _ _ _
        (refine wpAny_pure ?_; show wpAny _ _ (ret Value.none) _ _ _)
        refine wpAny_pure ⟨rfl, h3, t3, rfl, (by rw [lenX]; exact hS), fun b o hb e => mv.heap b o ?_ (Heap.get?_push_of_some _ (Heap.get?_push_of_some _ e))⟩
        have b1 : b ≠ sh.heap.objs.size := Nat.ne_of_lt hb
        have b2 : b ≠ (sh.heap.push (TxSet.bare ld)).objs.size := by rw [Heap.size_push]; exact Nat.ne_of_lt (Nat.lt_succ_of_lt hb)
        simp only [List.mem_cons, List.mem_singleton, List.not_mem_nil, or_false, not_or]
        exact ⟨b1, b2⟩
    · rcases r2 with ex | fl2
      · exact hr2
      cases fl2 with
      | ret r =>
        obtain ⟨rfl, h2, t2, rfl, hS, hk⟩ := hr2
        repeat any_goals first | assumption | wp_step
        exact fin _ _ hS hk
      | _ => exact hr2.elim
  | _ => exact hr.elim
end
end TO
set_option Elab.async false
set_option linter.all false
set_option maxRecDepth 100000
/-! sorted(set(xs)) of texts: the rule. -/
namespace TO
open PySem PySem.Spec PyProof.Rows L2 PySem.Froz
def txt : Value → Str
  | .str x _ => x
  | _ => Str.empty
theorem mem_txt {pr : Program} {ww : World} {D : SD} {l : List Str} (F : TxOk pr ww D l) {vs : List Value} (pm : vs.Perm (D.1.toList.map (·.2))) : (∀ v ∈ vs, ∃ t, v = .str (txt v) t ∧ txt v ∈ l) ∧ ∀ y ∈ l, y ∈ vs.map txt := by
  have one : ∀ k v, (strKind pr ww).is k v = true → ∃ t, v = .str k t := fun k v h => by
    have h : Value.isStrOf k v = true := h
    cases v with
    | str x t => exact ⟨t, by have := (show x = k from by simpa [Value.isStrOf] using h); rw [this]⟩
    | _ => simp [Value.isStrOf] at h
  refine ⟨fun v hv => ?_, fun y hy => ?_⟩
  · obtain ⟨e, he, rfl⟩ := List.mem_map.mp (pm.mem_iff.mp hv)
    obtain ⟨⟨k, hk, _⟩, _⟩ := F.el e he
    obtain ⟨t, ht⟩ := one k e.2 hk
    refine ⟨t, by rw [ht]; rfl, ?_⟩
    rw [ht]
    exact (F.mem k).mpr ⟨e, he, hk⟩
  · obtain ⟨e, he, hk⟩ := (F.mem y).mp hy
    obtain ⟨t, ht⟩ := one y e.2 hk
    refine List.mem_map.mpr ⟨e.2, pm.mem_iff.mpr (List.mem_map.mpr ⟨e, he, rfl⟩), ?_⟩
    rw [ht]
    rfl
theorem alike_txt (ys : List Str) : PySem.W.AllAlike (ys.map PyData.str) ∧ PySem.W.Sortable (ys.map PyData.str) := by
  have each : ∀ d ∈ ys.map PyData.str, ∃ x, d = .str x := fun d hd => by
    obtain ⟨x, _, rfl⟩ := List.mem_map.mp hd
    exact ⟨x, rfl⟩
  refine ⟨fun d hd d' hd' => ?_, .inr fun d hd => ?_⟩
  · obtain ⟨x, rfl⟩ := each d hd
    obtain ⟨y, rfl⟩ := each d' hd'
    simp [PySem.W.alike]
  · obtain ⟨x, rfl⟩ := each d hd
    exact ⟨by simp, by simp⟩
theorem each_txt {R : Value → Str → Prop} : ∀ {vs : List Value}, (∀ v ∈ vs, R v (txt v)) → PySem.W.EachIs R vs (vs.map txt)
  | [], _ => .nil
  | v :: vs, h => .cons (h v (by simp)) (each_txt fun u hu => h u (by simp [hu]))
theorem vals_txt : ∀ {vs : List Value} {ys : List Str}, PySem.W.EachIs (fun v y => ∃ t, v = Value.str y t) vs ys → Vals (ys.map V.str) vs
  | _, _, .nil => .nil
  | _, _, .cons h r => .cons h (vals_txt r)
def tSortTx (K : PySem.W.Frag) (ta : TE) : TE := fun σ H Q => ta σ H fun x H1 => ∃ (l : Addr) (xs : List Str), x = .ref l ∧ SqL K H1 l (xs.map V.str) ∧ xs.length ≤ 1000 ∧ ∀ (y : Addr) (ys : List Str), H1 y = none → (∀ z, z ∈ ys ↔ z ∈ xs) → ys.length ≤ xs.length → Q (.ref y) (upd H1 y (.lst (ys.map V.str)))
set_option maxHeartbeats 1000000 in
theorem pe_sortTx {X : Cx} {a : Expr} {ta : TE} {p p2 q pos : Pos} {j : Nat} (hr : Room j X.A) (hc : X.calm = true) (hg : Gl X "sorted") (hm : X.mg "sorted" = none) (hg2 : Gl X "set") (hm2 : X.mg "set" = none) (ha : PE X a ta) (na : starEach [a] X.env = (false, eval a X.env) :: starEach [] X.env := by rfl) :
    PE X (.Call (.Name "sorted" p) [.Call (.Name "set" p2) [a] [] q] [] pos) (tSortTx X.K ta) := by
  refine ⟨fun pins s σ H Q I h => Call_ (ld_blt I hg hm boot_sorted (PyProof.Rows.callWith_builtin1 (PyProof.Rows.args_cons (Call_ (ld_blt I hg2 hm2 boot_set (PyProof.Rows.callWith_type1 (PyProof.Rows.args_cons (thn (ha.run pins s σ H _ I h) fun v s1 ⟨x, H1, I1, r1, l, xs, ex, hq, l3, qq⟩ => PyProof.Rows.args_nil ?_) na) na rfl))) rfl) rfl rfl))⟩
  subst ex
  cases r1
  obtain ⟨itms, rv, pl, hz⟩ := I1.list hq
  have hl := rv.length
  rw [List.length_map] at hl
  have un := hr.un
  have noExc : X.A.handled = none := I1.ok.hd hc
  refine newR (xs := xs) noExc pl.isList (by simpa using strsAre_of rv) (by simp; unfold scanBound; omega) fun h' tk ⟨ls, R, ll, lm⟩ hk => ?_
  refine PyProof.Rows.args_nil ?_
  have J : L2.Inv X pins σ H1 { s1 with heap := h', toks := tk } := I1.kept fun b ob z => hk b ob (Heap.lt_size z) z
  obtain ⟨D, ho, F, ris, led⟩ := R.ex
  have sz : D.1.size = ls.length := F.sz
  refine SortT.sorted_by (β := Str) (enc := fun b => PyData.str b) (R := fun u b => ∃ t, u = Value.str b t) (OK := fun vs s2 => vs.Perm (D.1.toList.map (·.2)) ∧ (∀ b u, h'.get? b = some u → s2.heap.get? b = some u) ∧ h'.objs.size ≤ s2.heap.objs.size ∧ s2.gens = s1.gens ∧ s2.os = s1.os)
    (fun h => L2.collect_set (s := { s1 with heap := h', toks := tk }) (by simp [noExc]) ⟨_, ho, rfl, rfl⟩ F.fit (by rw [sz]; unfold scanBound; omega) ris led fun s2 vs k1 hz g1 o1 pm => h vs s2 ⟨pm, k1, hz, g1, o1⟩) ?_
  rintro vs s2 ⟨pm, k1, z1, g1, o1⟩
  obtain ⟨m1, m2⟩ := mem_txt F pm
  have vl : vs.length = ls.length := by rw [pm.length_eq, List.length_map, Array.length_toList, sz]
  have J2 : L2.Inv X pins σ H1 { s1 with heap := s2.heap, toks := tk } := J.kept (t' := tk) k1
  refine ⟨vs.map txt, each_txt fun v hv => ?_, each_txt fun v hv => ?_, (alike_txt _).1, (alike_txt _).2, by rw [List.length_map, vl, sizeLine_eq]; omega, fun b hb => ?_, fun out c h2 hlo he k2 hcc => ?_⟩
  · obtain ⟨t, e, _⟩ := m1 v hv
    exact ⟨t, e⟩
  · obtain ⟨t, e, _⟩ := m1 v hv
    exact Dp.reads J2 (.str (txt v)) (.str (txt v)) v (.str _) ⟨t, e⟩
  · show X.A.units + 2 + 0 < cLine
    omega
  · have hn : H1 s2.heap.objs.size = none := J.hok.fresh z1
    have prm := List.mergeSort_perm (vs.map txt) (PySem.W.dataLe false fun b => PyData.str b)
    generalize (vs.map txt).mergeSort (PySem.W.dataLe false fun b => PyData.str b) = cs at he prm
    have cl : cs.length = ls.length := by rw [prm.length_eq, List.length_map, vl]
    have kk : ∀ b u, h'.get? b = some u → h2.get? b = some u := fun b u e => k2 b u (k1 b u e)
    have JJ : L2.Inv X pins σ (upd H1 s2.heap.objs.size (.lst (cs.map V.str))) { s1 with heap := h2, gens := s2.gens, drawn := s2.drawn, toks := s2.toks } :=
      L2.Inv.call (s := { s1 with heap := h', toks := tk }) (ch := []) J (Un.laid kk z1 hn) (J.hok.laid kk z1 ⟨by rw [List.length_map, cl, sizeLine_eq]; omega, out, c, vals_txt he, hcc⟩) (by rw [g1]; exact I1.bare) (fun _ z => nomatch z)
    have e : { s2 with heap := h2 } = { s1 with heap := h2, gens := s2.gens, drawn := s2.drawn, toks := s2.toks } := by
      cases s2
      cases s1
      cases o1
      rfl
    rw [e]
    refine ⟨.ref s2.heap.objs.size, _, JJ, rfl, qq _ cs hn (fun z => ?_) (by omega)⟩
    rw [prm.mem_iff, ← lm z]
    exact ⟨fun hz => by obtain ⟨v, hv, rfl⟩ := List.mem_map.mp hz; exact (m1 v hv).choose_spec.2, m2 z⟩
end TO
namespace Dv
open PySem L2
theorem denAll_txt {K : PySem.W.Frag} {H : Hp} : ∀ {xs : List Str} {vs : List V}, DenAll K H (xs.map W.str) vs → vs = xs.map V.str
  | [], _, d => d
  | x :: xs, _, ⟨v, r, e, d1, d2⟩ => by
    have d1 : v = .str x := d1
    rw [e, d1, denAll_txt d2]
    rfl
theorem se_sortTx {X : Cx} {e : Expr} {G : Gs} {mu : Mu} {p p2 q pos : Pos} {P : PW1} {j : Nat} (hr : Room j X.A) (h : SE X e G mu fun w mu1 => ∃ a, ∃ xs : List Str, w = .m a ∧ mu1 a = some (.lst (xs.map W.str)) ∧ xs.length ≤ 1000 ∧
      ∀ y (ys : List Str), mu1 y = none → (∀ z, z ∈ ys ↔ z ∈ xs) → ys.length ≤ xs.length → P (.m y) (setM mu1 y (.lst (ys.map W.str))))
    (hm : X.mg "sorted" = none) (hm2 : X.mg "set" = none) (hc : X.calm = true := by rfl) (hg : Gl X "sorted" := by rfl) (hg2 : Gl X "set" := by rfl) (na : starEach [e] X.env = (false, eval e X.env) :: starEach [] X.env := by rfl) : SE X (.Call (.Name "sorted" p) [.Call (.Name "set" p2) [e] [] q] [] pos) G mu P :=
  SE.mk (TO.pe_sortTx hr hc hg hm hg2 hm2 peE na) fun σ H Q d m k => h σ H _ d m fun v w mu1 H1 h1 c1 d1 m1 => by
    obtain ⟨a, xs, hw, ha, l3, qq⟩ := h1
    subst hw
    have d1 : v = .ref a := d1
    subst d1
    obtain ⟨vs, hx, dx⟩ := m1 a _ ha
    have := denAll_txt dx
    subst this
    refine ⟨a, xs, rfl, SqL.of hx, l3, fun y ys hy h1 h2 => ?_⟩
    obtain ⟨c2, m2⟩ := laidC (o := .lst (ys.map V.str)) (c := .lst (ys.map W.str)) m1 hy (newLst (den_strs ys))
    exact (k.step c1) _ _ _ _ (qq y ys (m1.dom hy) h1 h2) c2 rfl m2
end Dv
set_option Elab.async false
set_option linter.all false
set_option maxRecDepth 100000
/-! Globals (ints, dicts of tuples), sets of ints, lists unpacked, is not True, d.get(k, x), str and int of texts, functions held by names. -/
namespace Dv
open PySem L2
section
variable {X : Cx} {e a b c o f : Expr} {es : List Expr} {G : Gs} {mu mu' : Mu} {pos p apos cpos : Pos} {P : PW1}
/-- a global whole number -/
structure KInt (mg : Str → Option Value) (x : Str) (n : Int) : Prop where
  ex : ∃ t, mg x = some (.int n t)
theorem se_globI {x : Str} {n : Int} (T : KInt X.mg x n) (h : P (.int n) mu) (hg : Gl X x := by rfl) (hd : (x == ("__debug__" : Str)) = false := by decide) : SE X (.Name x pos) G mu P := by
  obtain ⟨t, ht⟩ := T.ex
  exact se_glob (w := .int n) (v := .int n) ht ⟨t, rfl⟩ (fun _ _ => rfl) h hg hd
/-- a name that is none of the module's -/
structure KNo (mg : Str → Option Value) (x : Str) : Prop where
  no : mg x = none
/-- a global text -/
structure KStr (mg : Str → Option Value) (x : Str) (z : Str) : Prop where
  ex : ∃ t, mg x = some (.str z t)
theorem se_globS {x : Str} {z : Str} (T : KStr X.mg x z) (h : P (.str z) mu) (hg : Gl X x := by rfl) (hd : (x == ("__debug__" : Str)) = false := by decide) : SE X (.Name x pos) G mu P := by
  obtain ⟨t, ht⟩ := T.ex
  exact se_glob (w := .str z) (v := .str z) ht ⟨t, rfl⟩ (fun _ _ => rfl) h hg hd
/-- a global dict of tuples of texts -/
structure KDic (K : PySem.W.Frag) (w : World) (mg : Str → Option Value) (x : Str) (f : Str → Option (List Str)) : Prop where
  ex : ∃ p, mg x = some (.ref p) ∧ ∀ z ys, f z = some ys → ∃ a o its n, KDct K w p z (.ref a) ∧ K.lookup a = some o ∧ o.cls = .type "tuple" ∧ o.data = .seq its n ∧ its.size ≤ sizeLine ∧ Vals (ys.map V.str) its.toList
theorem se_globIx {x : Str} {f : Str → Option (List Str)} (T : KDic X.K X.w X.mg x f) (h : SE X b G mu fun w mu1 => ∃ z ys, w = .str z ∧ f z = some ys ∧ P (.tup (ys.map W.str)) mu1) (hg : Gl X x := by rfl) (hd : (x == ("__debug__" : Str)) = false := by decide) (hs : PlainIx b := by exact fun _ _ => rfl) : SE X (.Subscript (.Name x p) b pos) G mu P := by
  obtain ⟨q, hm, hf⟩ := T.ex
  refine SE.mk (pe_ix ix_kdict (pe_glob hg hm (v := .ref q) rfl hd) peE hs) fun σ H Q d m k => ?_
  refine h σ H _ d m fun v w mu1 H1 ⟨z, ys, e1, e2, h1⟩ c1 d1 m1 => ?_
  subst e1
  have d1 : v = .str z := d1
  subst d1
  obtain ⟨a, o, its, n, hk, hl, hc, hs', hz, r⟩ := hf z ys e2
  exact ⟨q, z, .ref a, rfl, rfl, hk, k _ _ _ _ h1 c1 ⟨a, _, rfl, .inr ⟨o, its, n, hl, hc, hs', hz, r⟩, den_strs ys⟩ m1⟩
/-- len(set(ns)), ns different whole numbers -/
theorem denAll_int {K : PySem.W.Frag} {H : Hp} : ∀ {xs : List Int} {vs : List V}, DenAll K H (xs.map W.int) vs → vs = xs.map V.int
  | [], _, d => d
  | x :: xs, _, ⟨v, r, e, d1, d2⟩ => by
    have d1 : v = .int x := d1
    rw [e, d1, denAll_int d2]
    rfl
theorem se_lenSetI {p2 q : Pos} (h : SE X a G mu fun w mu1 => ∃ l, ∃ ns : List Int, w = .m l ∧ mu1 l = some (.lst (ns.map W.int)) ∧ ns.Nodup ∧ ns.length ≤ 4000 ∧ P (.int (ns.length : Nat)) mu1)
    (hm : X.mg "len" = none) (hm2 : X.mg "set" = none) (hc : X.calm = true := by rfl) (hg : Gl X "len" := by rfl) (hg2 : Gl X "set" := by rfl) (na : starEach [a] X.env = (false, eval a X.env) :: starEach [] X.env := by rfl) : SE X (.Call (.Name "len" p) [.Call (.Name "set" p2) [a] [] q] [] pos) G mu P :=
  SE.mk (RZ.pe_lenSetI hg hm hg2 hm2 peE hc na) fun σ H Q d m k => h σ H _ d m fun v w mu1 H1 ⟨l, ns, e1, hl, nd, hn, q⟩ c1 d1 m1 => by
    subst e1
    have d1 : v = .ref l := d1
    subst d1
    obtain ⟨vs, hx, dx⟩ := m1 l _ hl
    have := denAll_int dx
    subst this
    exact ⟨l, ns, rfl, SqL.of hx, nd, hn, k _ _ _ _ q c1 rfl m1⟩
/-- a list unpacked into names -/
theorem sg_unl {n : Nat} {kk : Nat} {l : Addr} {ws : List W} {Post : Gs → Mu → Prop} (hl : mu l = some (.lst ws)) (h : SGs X es ws G mu Post) (hc : X.calm = true := by rfl) (hn : ws.length = n := by rfl)
    (ht : ∀ {t : TGs}, PGs X es t → PG X (.Tuple es kk pos) (gUnl X.K n t) := by exact fun h => pg_unl rfl h) : SG X (.Tuple es kk pos) (.m l) G mu Post :=
  SG.mk (ht pgsG) fun σ H v Q d m dv k => by
    have dv : v = .ref l := dv
    subst dv
    obtain ⟨xs, hx, dx⟩ := m l _ hl
    exact ⟨l, xs, rfl, SqL.of hx, by rw [← dx.length]; exact hn, h σ H xs Q d m dx k⟩
theorem notB_w : OpW X rNotB fun w1 w2 mu P => ∃ i j, w1 = .bl i ∧ w2 = .bl j ∧ ∀ b, b = (!decide (i = j)) → P (.bl b) mu := fun w1 w2 x y mu H P Q dx dy m ⟨i, j, e1, e2, q⟩ k => by
  subst e1 e2
  exact ⟨i, j, dx, dy, k.now (q _ rfl) rfl m⟩
/-- d.get(k, x) -/
theorem se_get2 (hu : X.A.units + 1 < cLine) (h : SE X o G mu fun w mu1 => ∃ a kvs0, w = .m a ∧ mu1 a = some (.dic kvs0) ∧ SE X e G mu1 fun w2 mu2 => SE X f G mu2 fun w3 mu3 => ∃ kvs k, mu3 a = some (.dic kvs) ∧ keyOf w2 = some k ∧ P ((valW kvs k).getD w3) mu3)
    (m2 : M2 X o "get" apos e f cpos := by exact ⟨rfl, rfl, rfl, rfl⟩) : SE X (.Call (.Attribute o "get" apos) [e, f] [] cpos) G mu P :=
  SE.mk (pe_dget2 hu peE peE peE m2) fun σ H Q d m k => h σ H _ d m fun v w mu1 H1 ⟨a, kvs0, e1, h0, h1⟩ c1 d1 m1 => by
    subst e1
    have d1 : v = .ref a := d1
    subst d1
    obtain ⟨vs0, hx0, _⟩ := m1 a _ h0
    refine ⟨a, rfl, .inl ⟨vs0, .inl hx0⟩, h1 σ H1 _ (c1.denG m d) m1 fun y w2 mu2 H2 h2 c2 d2 m2 => h2 σ H2 _ ((c1.trans c2).denG m d) m2 fun z w3 mu3 H3 ⟨kvs, kk, h3, hk, q⟩ c3 d3 m3 => ?_⟩
    obtain ⟨vs, hx, dk⟩ := m3 a _ h3
    have ey := keyOf_den hk (c3.den m2 d2)
    subst ey
    refine ⟨valV vs kk, DGet.k hx, k _ _ _ _ q ((c1.trans c2).trans c3) ?_ m3⟩
    cases hv : valW kvs kk with
    | none => rw [DKV.getN (K := X.K) (H := H3) dk hv]; exact d3
    | some u =>
      obtain ⟨v', q1, q2⟩ := DKV.get (K := X.K) (H := H3) dk hv
      rw [q1]
      exact q2
/-- str of a whole number, of a text -/
abbrev strIW (ws : List W) (mu : Mu) (P : PW1) : Prop := ∃ i : Int, ws = [.int i] ∧ i.natAbs.log2 < 1920 ∧ P (.str (toString i)) mu
theorem strI_w : CallW X (fun xs H Q => ∃ i : Int, xs = [.int i] ∧ i.natAbs.log2 < 1920 ∧ Q (.str (toString i)) H) strIW := fun ws vs mu H P Q d m ⟨i, e, hl, q⟩ k => by
  subst e
  obtain ⟨v, rfl, dv⟩ := d.one
  have dv : v = .int i := dv
  subst dv
  exact ⟨i, rfl, hl, k.now q rfl m⟩
theorem se_strI (h : SE X e G mu fun w mu1 => strIW [w] mu1 P) (hm : X.mg "str" = none) (hg : Gl X "str" := by rfl) (he : starEach [e] X.env = [(false, eval e X.env)] := by rfl) (hpl : (backTo pos (starEach [] X.env)).any (·.1) = false := by rfl) : SE X (.Call (.Name "str" p) [e] [] pos) G mu P :=
  se_bty call_str_int strI_w hm (sa_one h he) (by decide +kernel) hg (by decide) (by decide) he hpl
theorem strS_w : CallW X (fun xs H Q => ∃ a : Str, xs = [.str a] ∧ Q (.str a) H) fun ws mu P => ∃ z, ws = [.str z] ∧ P (.str z) mu := fun ws vs mu H P Q d m ⟨z, e, q⟩ k => by
  subst e
  obtain ⟨v, rfl, dv⟩ := d.one
  have dv : v = .str z := dv
  subst dv
  exact ⟨z, rfl, k.now q rfl m⟩
theorem se_strS (h : SE X e G mu fun w mu1 => ∃ z, [w] = [.str z] ∧ P (.str z) mu1) (hm : X.mg "str" = none) (hg : Gl X "str" := by rfl) (he : starEach [e] X.env = [(false, eval e X.env)] := by rfl) (hpl : (backTo pos (starEach [] X.env)).any (·.1) = false := by rfl) : SE X (.Call (.Name "str" p) [e] [] pos) G mu P :=
  se_bty SkE.call_str_str strS_w hm (sa_one h he) (by decide +kernel) hg (by decide) (by decide) he hpl
theorem intS_w : CallW X (fun xs H Q => ∃ a n, xs = [.str a] ∧ PySem.intText? a = some n ∧ a.length ≤ 640 ∧ Q (.int n) H) fun ws mu P => ∃ a n, ws = [.str a] ∧ PySem.intText? a = some n ∧ a.length ≤ 640 ∧ P (.int n) mu := fun ws vs mu H P Q d m ⟨a, n, e, h1, h2, q⟩ k => by
  subst e
  obtain ⟨v, rfl, dv⟩ := d.one
  have dv : v = .str a := dv
  subst dv
  exact ⟨a, n, rfl, h1, h2, k.now q rfl m⟩
theorem se_intS (h : SE X e G mu fun w mu1 => ∃ a n, [w] = [.str a] ∧ PySem.intText? a = some n ∧ a.length ≤ 640 ∧ P (.int n) mu1) (hm : X.mg "int" = none) (hg : Gl X "int" := by rfl) (he : starEach [e] X.env = [(false, eval e X.env)] := by rfl) (hpl : (backTo pos (starEach [] X.env)).any (·.1) = false := by rfl) : SE X (.Call (.Name "int" p) [e] [] pos) G mu P :=
  se_bty call_int_str intS_w hm (sa_one h he) (by decide +kernel) hg (by decide) (by decide) he hpl
end
/-! a function held by a name -/
structure DefVal (P : Program) (w : World) (K : PySem.W.Frag) (mg : Str → Option Value) (base : Heap) (f : Addr) (k : Nat) (S : SpW) : Prop where
  ex : ∃ fd ps, FnOk P w K mg base CX0 k f fd ps (spW K S) ∧ PySem.W.keepIn K (.ref f) = true ∧ Binds K fd ps []
section
variable {X : Cx} {e : Expr} {es : List Expr} {G : Gs} {mu : Mu} {pos p : Pos} {P : PW1}
theorem se_fun {x : Str} {ps : List Str} {k : Nat} {S : SpW} (D : DefOk X.prog X.w X.K X.mg X.base x ps k S) (h : ∀ f, DefVal X.prog X.w X.K X.mg X.base f k S → P (.m f) mu) (hg : Gl X x := by rfl) (hd : (x == ("__debug__" : Str)) = false := by decide) : SE X (.Name x pos) G mu P := by
  obtain ⟨f, fd, F, hm, hk, hb⟩ := D.ex
  exact SE.mk (pe_glob hg hm (v := .ref f) rfl hd) fun σ H Q d m kk => kk.now (h f ⟨fd, ps, F, hk, hb⟩) rfl m
theorem se_callV {x : Str} {i : Nat} {f : Addr} {k : Nat} {S : SpW} (D : DefVal X.prog X.w X.K X.mg X.base f k S) (hr : Room k X.A) (hG : G[i]? = some (some (.m f))) (h : SA X (e :: es) G mu fun ws mu1 => S ws mu1 P) (hN : X.N[i]? = some x := by rfl)
    (hv : Vis X.env.scope x := by first | exact Or.inl rfl | exact Or.inr (Or.inl rfl) | exact Or.inr (Or.inr rfl)) (hdb : (x == ("__debug__" : Str)) = false := by decide) (hcd : (x == ("__classdict__" : Str)) = false := by decide)
    (he : starEach (e :: es) X.env = (false, eval e X.env) :: starEach es X.env := by rfl) (hpl : (backTo pos (starEach es X.env)).any (·.1) = false := by rfl) : SE X (.Call (.Name x p) (e :: es) [] pos) G mu P := by
  obtain ⟨fd, ps, F, hk, hb⟩ := D.ex
  refine SE.mk (pe_callA (S := fun a => if a = f then some (spW X.K S) else none) (fun a sp hs => ?_) hr hN hv paA hdb hcd he hpl) fun σ H Q d m kk => ?_
  · by_cases ea : a = f
    · rw [if_pos ea] at hs
      cases hs
      subst ea
      exact ⟨fd, ps, F, hk, hb⟩
    · rw [if_neg ea] at hs
      cases hs
  · obtain ⟨v, e1, dv⟩ := d.2 i _ hG
    have dv : v = .ref f := dv
    subst dv
    exact ⟨f, spW X.K S, e1, if_pos rfl, h σ H _ d m fun vs ws mu1 H1 h1 c1 d1 m1 => ⟨ws, mu1, P, h1, d1, m1, kk.step c1⟩⟩
end
end Dv
set_option Elab.async false
set_option linter.all false
set_option maxRecDepth 100000
/-! Events and records as data and as words. -/
namespace K1
open PySem L2 Dv
inductive Ev where
  | beg (n : Str)
  | num (w : Str) (i : Nat)
def numbered : List Str := ["step", "stay", "leave", "come", "lapse"]
def numS (i : Nat) : Str := Str.ofString (toString ((i : Nat) : Int))
def EvOk : Ev → Prop
  | .beg n => NmOk n
  | .num w i => w ∈ numbered ∧ i < 10 ^ 18
def evW : Ev → W
  | .beg n => .tup [.str "begin", .str n]
  | .num w i => .tup [.str w, .int (i : Nat)]
def evL : Ev → List Str
  | .beg n => ["begin", n]
  | .num w i => [w, numS i]
def sorts : List Str := ["put", "drop", "look"]
def answersOf (s : Str) : Option (List Str) := if s = "put" then some ["done", "refused", "again"] else if s = "drop" then some ["done", "none", "again"] else if s = "look" then some ["there", "none", "again"] else none
structure Rec where
  b : Nat
  e : Option (Nat × Str)
  k : Str
  s : Str
def recW (r : Rec) : W := .tup [.int (r.b : Nat), (match r.e with | none => .non | some q => .int (q.1 : Nat)), .str r.k, .str r.s, (match r.e with | none => .non | some q => .str q.2)]
def recL (r : Rec) : List Str := [numS r.b, (match r.e with | none => "-" | some q => numS q.1), r.k, r.s, (match r.e with | none => "-" | some q => q.2)]
structure RecOk (r : Rec) : Prop where
  b1 : 1 ≤ r.b
  b2 : r.b < 10 ^ 18
  nm : NmOk r.k
  so : r.s ∈ sorts
  en : ∀ q, r.e = some q → r.b < q.1 ∧ q.1 < 10 ^ 18 ∧ ∃ ys, answersOf r.s = some ys ∧ q.2 ∈ ys
/-! digits -/
theorem numS_cps (i : Nat) : (numS i).cps.toList = TL.numL i := TL.tl_num i
theorem numS_len {i : Nat} (h : i < 10 ^ 18) : 1 ≤ (numS i).length ∧ (numS i).length ≤ 18 := by
  have e : (numS i).length = (TL.numL i).length := by rw [← numS_cps, Array.length_toList]; rfl
  rw [e]
  refine ⟨?_, TL.numL_len (by decide) h⟩
  cases hl : TL.numL i with
  | nil => exact absurd hl (TL.numL_ne i)
  | cons x r => simp
theorem numL_first {i : Nat} : 0 < i → ∃ c r, TL.numL i = c :: r ∧ 49 ≤ c ∧ c ≤ 57 := by
  induction i using Nat.strongRecOn with
  | _ i ih =>
    intro h0
    by_cases h : i < 10
    · exact ⟨48 + i, [], TL.numL_lt h, by omega, by omega⟩
    · obtain ⟨c, r, e, h1, h2⟩ := ih (i / 10) (by omega) (by omega)
      exact ⟨c, r ++ [48 + i % 10], by rw [TL.numL_step (by omega), e]; rfl, h1, h2⟩
theorem numL_zero : TL.numL 0 = [48] := TL.numL_lt (by decide)
theorem zero_eq : ("0" : Str) = ⟨#[48]⟩ := by decide +kernel
theorem dash_eq : ("-" : Str) = ⟨#[45]⟩ := by decide +kernel
theorem colon_eq : (":" : Str) = ⟨#[58]⟩ := by decide +kernel
theorem nl_eq : ("\n" : Str) = ⟨#[10]⟩ := by decide +kernel
theorem sp_eq : (" " : Str) = ⟨#[32]⟩ := by decide +kernel
theorem numS_dash {i : Nat} : numS i ≠ "-" := fun e => by
  have : (45 : Nat) ∈ (numS i).cps.toList := by rw [e, dash_eq]; simp
  rw [numS_cps] at this
  exact TL.numL_free (n := i) (s := 45) (by omega) this
theorem nm_dash {z : Str} (h : NmOk z) : z ≠ "-" := fun e => by
  rw [e, dash_eq] at h
  have := (h.2.2 45 (by simp)).1
  omega
/-- no blank, no line feed -/
def Clean (z : Str) : Prop := ∀ c ∈ z.cps.toList, c ≠ 10 ∧ c ≠ 32
theorem nm_clean {z : Str} (h : NmOk z) : Clean z := fun c hc => by have := (h.2.2 c hc).1; omega
theorem num_clean {i : Nat} : Clean (numS i) := fun c hc => by
  rw [numS_cps] at hc
  have := TL.numL_digits i c hc
  omega
theorem dash_clean : Clean "-" := by unfold Clean; decide +kernel
theorem numbered_nm : ∀ w ∈ numbered, NmOk w := by unfold NmOk; decide +kernel
theorem sorts_nm : ∀ w ∈ sorts, NmOk w := by unfold NmOk; decide +kernel
theorem begin_nm : NmOk "begin" := by unfold NmOk; decide +kernel
theorem answers_nm {s : Str} {ys : List Str} (h : answersOf s = some ys) : ys.length ≤ 3 ∧ ∀ y ∈ ys, NmOk y := by
  have h1 : ∀ y ∈ [("done" : Str), "refused", "again"], NmOk y := by unfold NmOk; decide +kernel
  have h2 : ∀ y ∈ [("done" : Str), "none", "again"], NmOk y := by unfold NmOk; decide +kernel
  have h3 : ∀ y ∈ [("there" : Str), "none", "again"], NmOk y := by unfold NmOk; decide +kernel
  unfold answersOf at h
  split at h
  · cases h; exact ⟨by decide, h1⟩
  · split at h
    · cases h; exact ⟨by decide, h2⟩
    · split at h
      · cases h; exact ⟨by decide, h3⟩
      · cases h
theorem answers_some {s : Str} (h : s ∈ sorts) : ∃ ys, answersOf s = some ys := by
  unfold sorts at h
  simp only [List.mem_cons, List.not_mem_nil, or_false] at h
  rcases h with rfl | rfl | rfl
  · exact ⟨_, if_pos rfl⟩
  · exact ⟨["done", "none", "again"], by decide +kernel⟩
  · exact ⟨["there", "none", "again"], by decide +kernel⟩
theorem begin_not : ("begin" : Str) ∉ numbered := by decide +kernel
/-! lines that are short -/
theorem len_app (x y : Str) : (x ++ y).length = x.length + y.length := by
  have h := congrArg List.length (str_app x y)
  rw [List.length_append, Array.length_toList, Array.length_toList, Array.length_toList] at h
  exact h
theorem join_le (z : Str) : ∀ ys : List Str, (Txt.join z ys).length ≤ (ys.map (·.length)).sum + ys.length * z.length := fun ys => by
  rw [TL.join_eq]
  induction ys with
  | nil => exact Nat.zero_le _
  | cons x r ih =>
    cases r with
    | nil => show x.length ≤ _; simp
    | cons y r =>
      show (x ++ z ++ Str.join z (y :: r)).length ≤ _
      rw [len_app, len_app]
      simp only [List.map_cons, List.sum_cons, List.length_cons, Nat.succ_mul] at ih ⊢
      omega
def LnOk (l : List Str) : Prop := l.length ≤ 30 ∧ ∀ z ∈ l, z.length ≤ 20
theorem sum_le {l : List Str} {k : Nat} (h : ∀ z ∈ l, z.length ≤ k) : (l.map (·.length)).sum ≤ l.length * k := by
  induction l with
  | nil => simp
  | cons x r ih =>
    have h1 := h x (by simp)
    have h2 := ih fun z hz => h z (by simp [hz])
    simp only [List.map_cons, List.sum_cons, List.length_cons, Nat.succ_mul]
    omega
theorem free_of {mu mu' : Mu} {a : Addr} (e : Ext mu mu') (h : mu' a = none) : mu a = none := by
  cases q : mu a with
  | none => rfl
  | some c => have := e _ _ q; rw [h] at this; cases this
def pageOf (ls : List (List Str)) : Str := Txt.join "\n" (ls.map (Txt.join " "))
theorem join_mem {s : Str} {c : Nat} : ∀ {ys : List Str}, c ∈ (Str.join s ys).cps.toList → c ∈ s.cps.toList ∨ ∃ y ∈ ys, c ∈ y.cps.toList
  | [], h => by simp [Str.join, Str.empty] at h
  | [y], h => .inr ⟨y, by simp, h⟩
  | y :: z :: r, h => by
    have h : c ∈ (y ++ s ++ Str.join s (z :: r)).cps.toList := h
    rw [str_app, str_app] at h
    rcases List.mem_append.mp h with h | h
    · rcases List.mem_append.mp h with h | h
      · exact .inr ⟨y, by simp, h⟩
      · exact .inl h
    · rcases join_mem h with h | ⟨x, hx, h⟩
      · exact .inl h
      · exact .inr ⟨x, by simp [hx], h⟩
theorem page_cut {ls : List (List Str)} (h0 : ls ≠ []) (h1 : ∀ l ∈ ls, l ≠ [] ∧ ∀ z ∈ l, Clean z) : Txt.split (pageOf ls) "\n" = ls.map (Txt.join " ") ∧ (ls.map (Txt.join " ")).map (fun y => Txt.split y " ") = ls := by
  refine ⟨?_, ?_⟩
  · unfold pageOf
    rw [nl_eq]
    refine cut_put (by decide) (by simpa using h0) fun y hy m => ?_
    obtain ⟨l, hl, rfl⟩ := List.mem_map.mp hy
    rw [TL.join_eq] at m
    rcases join_mem m with m | ⟨z, hz, m⟩
    · rw [sp_eq] at m; simp at m
    · exact ((h1 l hl).2 z hz 10 m).1 rfl
  · rw [List.map_map]
    refine (List.map_congr_left fun l hl => ?_).trans (List.map_id' _)
    show Txt.split (Txt.join " " l) " " = l
    rw [sp_eq]
    exact cut_put (by decide) (h1 l hl).1 fun y hy m => ((h1 l hl).2 y hy 32 m).2 rfl
theorem page_len {ls : List (List Str)} (hl : ls.length ≤ 60) (h : ∀ l ∈ ls, LnOk l) : (∀ z ∈ ls.map (Txt.join " "), z.length ≤ 700) ∧ (pageOf ls).length ≤ 50000 := by
  have l1 : ("\n" : Str).length = 1 := by decide +kernel
  have l2 : (" " : Str).length = 1 := by decide +kernel
  have each : ∀ z ∈ ls.map (Txt.join " "), z.length ≤ 700 := fun z hz => by
    obtain ⟨l, hl, rfl⟩ := List.mem_map.mp hz
    have lo := h l hl
    have a1 := join_le " " l
    have a2 := sum_le lo.2
    have := lo.1
    rw [l2] at a1
    omega
  refine ⟨each, ?_⟩
  have a1 := join_le "\n" (ls.map (Txt.join " "))
  have a2 := sum_le each
  rw [List.length_map] at a1 a2
  rw [l1] at a1
  unfold pageOf
  omega
theorem page_nil : pageOf [] = "" := rfl
theorem join_pos {z x : Str} {r : List Str} : x.length ≤ (Txt.join z (x :: r)).length := by
  rw [TL.join_eq]
  cases r with
  | nil => exact Nat.le_refl _
  | cons y r =>
    show _ ≤ (x ++ z ++ Str.join z (y :: r)).length
    rw [len_app, len_app]
    omega
theorem page_ne {l : List Str} {ls : List (List Str)} {x : Str} {r : List Str} (h : l = x :: r) (h1 : 1 ≤ x.length) : pageOf (l :: ls) ≠ "" := fun e => by
  have h2 := join_pos (z := "\n") (x := Txt.join " " l) (r := ls.map (Txt.join " "))
  rw [h] at h2
  have h3 := join_pos (z := " ") (x := x) (r := r)
  have h4 : (pageOf (l :: ls)).length = 0 := by rw [e]; rfl
  unfold pageOf at h4
  rw [List.map_cons, h] at h4
  omega
end K1
set_option Elab.async false
set_option linter.all false
set_option maxRecDepth 100000
/-! What events and records are by their words. -/
namespace K1
open PySem L2 Dv
theorem in_namesE {P : PW1} {mu : Mu} {ng : Bool} {ns : List Str} {h : Str} (hh : NmOk h) (hn : ∀ n ∈ ns, NmOk n) (k : ∀ b, b = (ng != decide (h ∈ ns)) → P (.bl b) mu) : inW ng (.str h) (nmW ns) mu P := in_names hh hn (k _ rfl)
theorem neT_w {X : Cx} : OpW X rNe fun w1 w2 mu P => ∃ i j, w1 = .str i ∧ w2 = .str j ∧ ∀ b, b = (!decide (i = j)) → P (.bl b) mu := fun w1 w2 x y mu H P Q dx dy m ⟨i, j, e1, e2, q⟩ k => by
  subst e1 e2
  have dx : x = .str i := dx
  have dy : y = .str j := dy
  subst dx dy
  refine ⟨rfl, ?_⟩
  have : decide (V.str i = V.str j) = decide (i = j) := by
    rw [Bool.eq_iff_iff, decide_eq_true_iff, decide_eq_true_iff]
    exact ⟨fun e => by injection e, fun e => by rw [e]⟩
  rw [this]
  exact k.now (q _ rfl) rfl m
theorem neN_w {X : Cx} : OpW X rNe fun w1 w2 mu P => ∃ i j, w1 = .int i ∧ w2 = .int j ∧ ∀ b, b = (!(i == j)) → P (.bl b) mu := fun w1 w2 x y mu H P Q dx dy m ⟨i, j, e1, e2, q⟩ k => by
  subst e1 e2
  have dx : x = .int i := dx
  have dy : y = .int j := dy
  subst dx dy
  refine ⟨rfl, ?_⟩
  rw [dec_int]
  exact k.now (q _ rfl) rfl m
theorem digits_mem {c : Nat} (h : 48 ≤ c ∧ c ≤ 57) : c ∈ ("0123456789" : Str).cps.toList := by
  have hd : ∀ c, c < 58 → 48 ≤ c → c ∈ ("0123456789" : Str).cps.toList := by decide +kernel
  exact hd c (by omega) h.1
section
variable {P : Program} {w : World} {K : PySem.W.Frag} {mg : Str → Option Value} {base : Heap}
abbrev s_is_integer : Stmt := top 7
theorem sc_is_integer : FnScope ["value"] ["value"] (defScope s_is_integer) := ⟨rfl, rfl, rfl, by decide +kernel, rfl, by decide +kernel, by decide +kernel⟩
def S_is_integer : SpW := S_t fun ws mu => ∃ i, ws = [.int i]
theorem d_is_integer (D : Dfn K mg "is_integer" s_is_integer ["value"]) (B : Bl mg) (Kb : KNo mg "bool") : DefOk P w K mg base "is_integer" ["value"] 1 S_is_integer := by
  refine dfnOk D sc_is_integer (fun ws mu P ⟨⟨i, e⟩, _⟩ => by rw [e]; rfl) (fun f cdv A outer s H E hr ws mu Pt ⟨⟨i, e⟩, h⟩ => ?_)
  subst e
  refine sss_cons (ss_ret (se_and (se_isi (T := "int") (se_var (i := 0) rfl ⟨"int", true, rfl, by decide +kernel, ?_⟩) B.isinstance B.int)))
  refine se_one (se_not (se_isi (T := "bool") (se_var (i := 0) rfl ⟨"int", false, rfl, by decide +kernel, ?_⟩) B.isinstance Kb.no))
  exact h _ Ext.refl
abbrev s_is_decimal : Stmt := top 15
theorem sc_is_decimal : FnScope ["word", "sign"] ["word"] (defScope s_is_decimal) := ⟨rfl, rfl, rfl, by decide +kernel, rfl, by decide +kernel, by decide +kernel⟩
def S_is_decimal : SpW := S_t fun ws mu => ∃ i, ws = [.str (numS i)] ∧ i < 10 ^ 18
theorem d_is_decimal (D : Dfn K mg "is_decimal" s_is_decimal ["word"]) (B : Bl mg) (Kd : KStr mg "DIGITS" "0123456789") : DefOk P w K mg base "is_decimal" ["word"] 1 S_is_decimal := by
  refine dfnOk D sc_is_decimal (fun ws mu P ⟨⟨i, e, _⟩, _⟩ => by rw [e]; rfl) (fun f cdv A outer s H E hr ws mu Pt ⟨⟨i, e, hi⟩, h⟩ => ?_)
  subst e
  obtain ⟨n1, n2⟩ := numS_len hi
  have ne0 : numS i ≠ "" := fun e => by rw [e] at n1; exact absurd n1 (by decide)
  have hz : (numS i).length ≤ sizeLine := Nat.le_trans n2 (by decide)
  refine sss_cons (ss_if (st_of_w (sw_or (st_cmp op_eq eqT_w (nomark _) (se_var (i := 0) rfl (se_str ⟨_, _, rfl, rfl, fun b hb => ?_⟩))))))
  refine if2_f (by rw [hb]; exact decide_eq_false ne0) ?_
  refine sw_or1 (st_not (st_val (se_all ?_ B.all)))
  refine se_lc (own := [("sign", 1)]) (.nm 1) rfl sc_is_decimal.nd (blkOk_by (N := ["word", "sign"]) (sc := defScope s_is_decimal) (by decide +kernel)) rfl (fun _ _ _ _ _ => (pg_name (i := 1) sc_is_decimal.nd rfl (Or.inl rfl))) (by intro _; rfl) ?_
  refine si_str (se_var (i := 0) rfl ?_)
  refine lc_all_t (fun _ _ => trivial) (by rw [List.length_map, Array.length_toList]; exact hz) InBlk.mono ?_ fun mu' e => ?_
  · intro w mu' hw he
    obtain ⟨c, hc, rfl⟩ := List.mem_map.mp hw
    refine ⟨_, rfl, fun s H C cl fp => ?_⟩
    refine se_cmp op_in_sign inC_w (by rfl) (se_var (i := 1) rfl (se_globS Kd ?_))
    refine ⟨c, _, rfl, rfl, ?_, Ext.refl⟩
    rw [numS_cps] at hc
    rw [decide_eq_true (digits_mem (TL.numL_digits i c hc))]
  refine sss_nil ?_
  refine sss_cons (ss_ret (se_or (se_cmp op_eq eqT_w (nomark _) (se_var (i := 0) rfl (se_str ⟨_, _, rfl, rfl, fun b hb => ?_⟩)))))
  by_cases h0 : i = 0
  · subst h0
    have : numS 0 = "0" := by decide +kernel
    refine bW_t (by rw [hb]; exact decide_eq_true this) (h _ e)
  · obtain ⟨c, r, ec, c1, c2⟩ := numL_first (i := i) (by omega)
    have hne : numS i ≠ "0" := fun q => by
      have : TL.numL i = [48] := by rw [← numS_cps, q, zero_eq]
      rw [ec] at this
      injection this with h1 _
      omega
    refine bW_f (by rw [hb]; exact decide_eq_false hne) ?_
    refine se_one (se_cmp op_ne neT_w (nomark _) (se_ix (se_var (i := 0) rfl (se_int ⟨c, hz, ?_, se_str ⟨_, _, rfl, rfl, fun b2 hb2 => ?_⟩⟩))))
    · rw [numS_cps, ec]; exact atI_nat' (i := 0) rfl
    · have : (⟨#[c]⟩ : Str) ≠ "0" := fun q => by
        rw [zero_eq] at q
        injection q with q
        injection q with q
        injection q with q _
        omega
      rw [hb2, decide_eq_false this]
      exact h _ e
abbrev s_is_event : Stmt := top 16
theorem sc_is_event : FnScope ["value", "word", "which"] ["value"] (defScope s_is_event) := ⟨rfl, rfl, rfl, by decide +kernel, rfl, by decide +kernel, by decide +kernel⟩
def S_is_event : SpW := S_t fun ws mu => ∃ e, ws = [evW e] ∧ EvOk e
theorem d_is_event (D : Dfn K mg "is_event" s_is_event ["value"]) (B : Bl mg) (T : KTup K mg "NUMBERED" numbered) (D_tuple : DefOk P w K mg base "is_tuple" ["value", "least", "most"] 1 S_is_tuple) (D_name : DefOk P w K mg base "is_name" ["value"] 1 S_is_name) (D_integer : DefOk P w K mg base "is_integer" ["value"] 1 S_is_integer) : DefOk P w K mg base "is_event" ["value"] 2 S_is_event := by
  refine dfnOk D sc_is_event (fun ws mu P ⟨⟨i, e, _⟩, _⟩ => by rw [e]; rfl) (fun f cdv A outer s H E hr ws mu Pt ⟨⟨ev, e, ok⟩, h⟩ => ?_)
  subst e
  have hu65 : (A.deeper (PyProof.Rows.envOfC "is_event" (defScope s_is_event) s.heap.objs.size f cdv)).units + 65 < cLine := by have := hr.un; omega
  obtain ⟨us, eu, lu⟩ : ∃ us, evW ev = .tup us ∧ us.length = 2 := by cases ev <;> exact ⟨_, rfl, rfl⟩
  refine sss_cons (ss_if (st_not (st_val ?_)))
  refine se_callD D_tuple (hr.mono (by decide)) (sa_cons (se_var (i := 0) rfl (sa_cons (se_int (sa_cons (se_int (sa_nil ?_)))))))
  refine ⟨us, 2, 2, by rw [eu], fun r mu1 hr1 e1 => ?_⟩
  have hr1' : r = true := by rw [hr1, lu]; decide
  rw [hr1']
  refine sss_nil ?_
  refine sss_cons (ss_asg (se_var (i := 0) rfl ?_))
  cases ev with
  | beg n =>
    refine sg_tup (sgs_cons (sg_name (i := 1) (sgs_cons (sg_name (i := 2) (sgs_nil ?_) sc_is_event.nd)) sc_is_event.nd))
    refine sss_cons (ss_if (st_cmp op_eq eqT_w (nomark _) (se_var (i := 1) rfl (se_str ⟨_, _, rfl, rfl, fun b hb => ?_⟩))))
    refine if2_t (by rw [hb]; decide +kernel) ?_
    refine sss_cons (ss_ret (se_callD D_name (hr.mono (by decide)) (sa_cons (se_var (i := 2) rfl (sa_nil ?_)))))
    exact ⟨⟨n, rfl, ok⟩, fun mu2 e2 => h _ (e1.trans e2)⟩
  | num z i =>
    have nb : z ≠ "begin" := fun q => begin_not (q ▸ ok.1)
    refine sg_tup (sgs_cons (sg_name (i := 1) (sgs_cons (sg_name (i := 2) (sgs_nil ?_) sc_is_event.nd)) sc_is_event.nd))
    refine sss_cons (ss_if (st_cmp op_eq eqT_w (nomark _) (se_var (i := 1) rfl (se_str ⟨_, _, rfl, rfl, fun b hb => ?_⟩))))
    refine if2_f (by rw [hb]; exact decide_eq_false nb) (sss_nil ?_)
    refine sss_cons (ss_ret (se_and (se_cmp (op_inT hu65) (in_w false) (by rfl) (se_var (i := 1) rfl (se_globT T ?_)))))
    refine in_namesE (ns := numbered) (numbered_nm z ok.1) numbered_nm fun b2 hb2 => ?_
    refine bW_t (by rw [hb2, decide_eq_true ok.1]; rfl) ?_
    refine se_and (se_callD D_integer (hr.mono (by decide)) (sa_cons (se_var (i := 2) rfl (sa_nil ?_))))
    refine ⟨⟨_, rfl⟩, fun mu2 e2 => ?_⟩
    refine se_one (se_cmp op_ge cmpN_w (nomark _) (se_var (i := 2) rfl (se_int ⟨_, _, rfl, rfl, fun b3 hb3 => ?_⟩)))
    have : b3 = true := by rw [hb3]; simp
    rw [this]
    exact h _ (e1.trans e2)
abbrev s_event_in : Stmt := top 17
theorem sc_event_in : FnScope ["words"] ["words"] (defScope s_event_in) := ⟨rfl, rfl, rfl, by decide +kernel, rfl, by decide +kernel, by decide +kernel⟩
def S_event_in : SpW := fun ws mu P => ∃ a e, ws = [.m a] ∧ mu a = some (.lst (stW (evL e))) ∧ EvOk e ∧ ∀ mu', Ext mu mu' → P (evW e) mu'
theorem d_event_in (D : Dfn K mg "event_in" s_event_in ["words"]) (B : Bl mg) (T : KTup K mg "NUMBERED" numbered) (D_name : DefOk P w K mg base "is_name" ["value"] 1 S_is_name) (D_decimal : DefOk P w K mg base "is_decimal" ["word"] 1 S_is_decimal) : DefOk P w K mg base "event_in" ["words"] 2 S_event_in := by
  refine dfnOk D sc_event_in (fun ws mu P ⟨a, _, e, _⟩ => by rw [e]; rfl) (fun f cdv A outer s H E hr ws mu Pt ⟨a, ev, e, ha, ok, h⟩ => ?_)
  subst e
  have hu65 : (A.deeper (PyProof.Rows.envOfC "event_in" (defScope s_event_in) s.heap.objs.size f cdv)).units + 65 < cLine := by have := hr.un; omega
  cases ev with
  | beg n =>
    refine sss_cons (ss_if (st_cmp op_ne neN_w (nomark _) (se_len (se_var (i := 0) rfl ⟨_, ha, se_int ⟨_, _, rfl, rfl, fun b hb => ?_⟩⟩) B.len)))
    rw [hb]
    refine sss_nil ?_
    refine sss_cons (ss_if (st_of_w (sw_and (st_cmp op_eq eqT_w (nomark _) (se_ix (se_var (i := 0) rfl (se_int ⟨_, _, ha, rfl, se_str ⟨_, _, rfl, rfl, fun b hb => ?_⟩⟩)))))))
    refine if2_t (by rw [hb]; decide +kernel) ?_
    refine sw_and1 (st_val (se_callD D_name (hr.mono (by decide)) (sa_cons (se_ix (se_var (i := 0) rfl (se_int ⟨_, _, ha, rfl, sa_nil ?_⟩))))))
    refine ⟨⟨n, rfl, ok⟩, fun mu1 e1 => ?_⟩
    refine sss_cons (ss_ret (se_tup (sa_cons (se_str (sa_cons (se_ix (se_var (i := 0) rfl (se_int ⟨_, _, e1 _ _ ha, rfl, sa_nil ⟨by show 2 ≤ sizeLine; decide, ?_⟩⟩))))))))
    exact h _ e1
  | num z i =>
    have nb : z ≠ "begin" := fun q => begin_not (q ▸ ok.1)
    refine sss_cons (ss_if (st_cmp op_ne neN_w (nomark _) (se_len (se_var (i := 0) rfl ⟨_, ha, se_int ⟨_, _, rfl, rfl, fun b hb => ?_⟩⟩) B.len)))
    rw [hb]
    refine sss_nil ?_
    refine sss_cons (ss_if (st_of_w (sw_and (st_cmp op_eq eqT_w (nomark _) (se_ix (se_var (i := 0) rfl (se_int ⟨_, _, ha, rfl, se_str ⟨_, _, rfl, rfl, fun b hb => ?_⟩⟩)))))))
    refine if2_f (by rw [hb]; exact decide_eq_false nb) (sss_nil ?_)
    refine sss_cons (ss_if (st_of_w (sw_and (st_cmp (op_inT hu65) (in_w false) (by rfl) (se_ix (se_var (i := 0) rfl (se_int ⟨_, _, ha, rfl, se_globT T ?_⟩)))))))
    refine in_namesE (ns := numbered) (numbered_nm z ok.1) numbered_nm fun b2 hb2 => ?_
    refine if2_t (by rw [hb2, decide_eq_true ok.1]; rfl) ?_
    refine sw_and1 (st_val (se_callD D_decimal (hr.mono (by decide)) (sa_cons (se_ix (se_var (i := 0) rfl (se_int ⟨_, _, ha, rfl, sa_nil ?_⟩))))))
    refine ⟨⟨i, rfl, ok.2⟩, fun mu1 e1 => ?_⟩
    have ha1 := e1 _ _ ha
    have n2 := (numS_len ok.2).2
    refine sss_cons (ss_ret (se_tup (sa_cons (se_ix (se_var (i := 0) rfl (se_int ⟨_, _, ha1, rfl, sa_cons (se_intS (se_ix (se_var (i := 0) rfl (se_int ⟨_, _, ha1, rfl, _, _, rfl, TL.int_num ?_, by omega, sa_nil ⟨by show 2 ≤ sizeLine; decide, ?_⟩⟩))) B.int)⟩))))))
    · exact Nat.le_trans (TL.numL_len (by decide) ok.2) (by decide)
    · exact h _ e1
end
end K1
set_option Elab.async false
set_option linter.all false
set_option maxRecDepth 100000
/-! Records and histories: what each piece promises. -/
namespace K1
open PySem L2 Dv
def histW (h : List Rec) : W := .tup (h.map recW)
theorem recW_five (r : Rec) : ∃ us, recW r = .tup us ∧ us.length = 5 := ⟨_, rfl, rfl⟩
def pK (k : Str) : W → Bool := fun w => match w with | .tup [_, .tup [_, _, .str z, _, _]] => decide (z = k) | _ => false
theorem nums_len {k : Str} : ∀ (hi : List Rec) (f : Nat → W → W), (∀ i r, pK k (f i (recW r)) = decide (r.k = k)) → (((hi.map recW).mapIdx f).filter (pK k)).length = (hi.filter fun r => decide (r.k = k)).length
  | [], f, _ => by simp
  | r :: hi, f, h => by
    rw [List.map_cons, List.mapIdx_cons, List.filter_cons, List.filter_cons, h]
    have := nums_len hi (fun i => f (i + 1)) fun i r => h (i + 1) r
    by_cases e : decide (r.k = k) = true
    · rw [if_pos e, if_pos e, List.length_cons, List.length_cons, this]
    · rw [if_neg e, if_neg e, this]
theorem okUs_int {ns : List Int} (h : ns.length ≤ sizeLine) : okUs (ns.map W.int) := by
  refine ⟨by rw [List.length_map]; exact h, fun u hu => ?_⟩
  obtain ⟨n, hn, rfl⟩ := List.mem_map.mp hu
  refine ⟨by simp [plW], by simp [dat], by simp [dat, PyData.depth], fun v hv => ?_⟩
  obtain ⟨n', hn', rfl⟩ := List.mem_map.mp hv
  simp [dat, PySem.W.alike]
theorem rising_int : ∀ {ns : List Int}, ns.Pairwise (· < ·) → rising (ns.map W.int) = true
  | [], _ => rfl
  | [x], _ => rfl
  | x :: y :: r, h => by
    have h1 := (List.pairwise_cons.mp h).1 y (by simp)
    have h2 := rising_int (List.pairwise_cons.mp h).2
    unfold rising at h2 ⊢
    simp only [List.map_cons, List.tail_cons, List.zip_cons_cons, List.all_cons, Bool.and_eq_true] at h2 ⊢
    refine ⟨?_, h2⟩
    show PySem.W.dataLt (dat (.int x)) (dat (.int y)) = true
    simp only [dat]
    have : PySem.W.dataLt (.int x) (.int y) = decide (x < y) := by
      first
        | rfl
        | simp [PySem.W.dataLt, PySem.W.keyToks, PyProof.Rows.lexLt, PyProof.Rows.itemOrd, PyProof.Rows.itemLt]
    rw [this]
    exact decide_eq_true h1
section
variable {P : Program} {w : World} {K : PySem.W.Frag} {mg : Str → Option Value} {base : Heap}
abbrev s_record_in : Stmt := top 18
theorem sc_record_in : FnScope ["words", "begin", "end", "key", "sort", "answer"] ["words"] (defScope s_record_in) := ⟨rfl, rfl, rfl, by decide +kernel, rfl, by decide +kernel, by decide +kernel⟩
def S_record_in : SpW := fun ws mu P => ∃ a r, ws = [.m a] ∧ mu a = some (.lst (stW (recL r))) ∧ RecOk r ∧ ∀ mu', Ext mu mu' → P (recW r) mu'
theorem d_record_in (D : Dfn K mg "record_in" s_record_in ["words"]) (B : Bl mg) (D_name : DefOk P w K mg base "is_name" ["value"] 1 S_is_name) (D_decimal : DefOk P w K mg base "is_decimal" ["word"] 1 S_is_decimal) : DefOk P w K mg base "record_in" ["words"] 2 S_record_in := by
  refine dfnOk D sc_record_in (fun ws mu P ⟨a, _, e, _⟩ => by rw [e]; rfl) (fun f cdv A outer s H E hr ws mu Pt ⟨a, r, e, ha, ok, h⟩ => ?_)
  subst e
  have nb := (numS_len ok.b2).2
  have ib : PySem.intText? (numS r.b) = some ((r.b : Nat) : Int) := TL.int_num (Nat.le_trans (TL.numL_len (by decide) ok.b2) (by decide))
  obtain ⟨rb, re, rk, rs⟩ := r
  refine sss_cons (ss_if (st_cmp op_ne neN_w (nomark _) (se_len (se_var (i := 0) rfl ⟨_, ha, se_int ⟨_, _, rfl, rfl, fun b hb => ?_⟩⟩) B.len)))
  rw [hb]
  refine sss_nil ?_
  refine sss_cons (ss_asg (se_var (i := 0) rfl (sg_unl ha ?_)))
  refine sgs_cons (sg_name (i := 1) (sgs_cons (sg_name (i := 2) (sgs_cons (sg_name (i := 3) (sgs_cons (sg_name (i := 4) (sgs_cons (sg_name (i := 5) (sgs_nil ?_) sc_record_in.nd)) sc_record_in.nd)) sc_record_in.nd)) sc_record_in.nd)) sc_record_in.nd)
  have so := sorts_nm rs ok.so
  cases re with
  | none =>
    refine sss_cons (ss_if (st_of_w (sw_or (st_not (st_val (se_callD D_decimal (hr.mono (by decide)) (sa_cons (se_var (i := 1) rfl (sa_nil ?_)))))))))
    refine ⟨⟨rb, rfl, ok.b2⟩, fun mu1 e1 => ?_⟩
    refine sw_or1 (st_not (st_of_w (sw_or (st_cmp op_eq eqT_w (nomark _) (se_var (i := 2) rfl (se_str ⟨_, _, rfl, rfl, fun b2 hb2 => ?_⟩))))))
    refine if2_t (by rw [hb2]; exact decide_eq_true rfl) ?_
    refine sss_nil ?_
    refine sss_cons (ss_if (st_of_w (sw_or (st_not (st_val (se_callD D_name (hr.mono (by decide)) (sa_cons (se_var (i := 3) rfl (sa_nil ?_)))))))))
    refine ⟨⟨rk, rfl, ok.nm⟩, fun mu2 e2 => ?_⟩
    refine sw_or (st_not (st_val (se_callD D_name (hr.mono (by decide)) (sa_cons (se_var (i := 4) rfl (sa_nil ?_))))))
    refine ⟨⟨rs, rfl, so⟩, fun mu3 e3 => ?_⟩
    refine sw_or1 (st_not (st_of_w (sw_or (st_cmp op_eq eqT_w (nomark _) (se_var (i := 5) rfl (se_str ⟨_, _, rfl, rfl, fun b2 hb2 => ?_⟩))))))
    refine if2_t (by rw [hb2]; exact decide_eq_true rfl) ?_
    refine sss_nil ?_
    refine sss_cons (ss_ret (se_tup ?_))
    refine sa_cons (se_intS (se_var (i := 1) rfl ⟨_, _, rfl, ib, by omega, ?_⟩) B.int)
    refine sa_cons (se_if (st_cmp op_eq eqT_w (nomark _) (se_var (i := 2) rfl (se_str ⟨_, _, rfl, rfl, fun b2 hb2 => ?_⟩))))
    refine if2_t (by rw [hb2]; exact decide_eq_true rfl) (se_non ?_)
    refine sa_cons (se_var (i := 3) rfl (sa_cons (se_var (i := 4) rfl ?_)))
    refine sa_cons (se_if (st_cmp op_eq eqT_w (nomark _) (se_var (i := 5) rfl (se_str ⟨_, _, rfl, rfl, fun b2 hb2 => ?_⟩))))
    refine if2_t (by rw [hb2]; exact decide_eq_true rfl) (se_non (sa_nil ⟨by show 5 ≤ sizeLine; decide, ?_⟩))
    exact h _ ((e1.trans e2).trans e3)
  | some q =>
    obtain ⟨q1, q2, ys, hys, hq⟩ := ok.en q rfl
    have qn := (answers_nm hys).2 q.2 hq
    have ne := (numS_len q2).2
    have ie : PySem.intText? (numS q.1) = some ((q.1 : Nat) : Int) := TL.int_num (Nat.le_trans (TL.numL_len (by decide) q2) (by decide))
    refine sss_cons (ss_if (st_of_w (sw_or (st_not (st_val (se_callD D_decimal (hr.mono (by decide)) (sa_cons (se_var (i := 1) rfl (sa_nil ?_)))))))))
    refine ⟨⟨rb, rfl, ok.b2⟩, fun mu1 e1 => ?_⟩
    refine sw_or1 (st_not (st_of_w (sw_or (st_cmp op_eq eqT_w (nomark _) (se_var (i := 2) rfl (se_str ⟨_, _, rfl, rfl, fun b2 hb2 => ?_⟩))))))
    refine if2_f (by rw [hb2]; exact decide_eq_false numS_dash) ?_
    refine sw_or1 (st_val (se_callD D_decimal (hr.mono (by decide)) (sa_cons (se_var (i := 2) rfl (sa_nil ?_)))))
    refine ⟨⟨q.1, rfl, q2⟩, fun mu1' e1' => ?_⟩
    refine sss_nil ?_
    refine sss_cons (ss_if (st_of_w (sw_or (st_not (st_val (se_callD D_name (hr.mono (by decide)) (sa_cons (se_var (i := 3) rfl (sa_nil ?_)))))))))
    refine ⟨⟨rk, rfl, ok.nm⟩, fun mu2 e2 => ?_⟩
    refine sw_or (st_not (st_val (se_callD D_name (hr.mono (by decide)) (sa_cons (se_var (i := 4) rfl (sa_nil ?_))))))
    refine ⟨⟨rs, rfl, so⟩, fun mu3 e3 => ?_⟩
    refine sw_or1 (st_not (st_of_w (sw_or (st_cmp op_eq eqT_w (nomark _) (se_var (i := 5) rfl (se_str ⟨_, _, rfl, rfl, fun b2 hb2 => ?_⟩))))))
    refine if2_f (by rw [hb2]; exact decide_eq_false (nm_dash qn)) ?_
    refine sw_or1 (st_val (se_callD D_name (hr.mono (by decide)) (sa_cons (se_var (i := 5) rfl (sa_nil ?_)))))
    refine ⟨⟨q.2, rfl, qn⟩, fun mu4 e4 => ?_⟩
    refine sss_nil ?_
    refine sss_cons (ss_ret (se_tup ?_))
    refine sa_cons (se_intS (se_var (i := 1) rfl ⟨_, _, rfl, ib, by omega, ?_⟩) B.int)
    refine sa_cons (se_if (st_cmp op_eq eqT_w (nomark _) (se_var (i := 2) rfl (se_str ⟨_, _, rfl, rfl, fun b2 hb2 => ?_⟩))))
    refine if2_f (by rw [hb2]; exact decide_eq_false numS_dash) ?_
    refine se_intS (se_var (i := 2) rfl ⟨_, _, rfl, ie, by show (numS q.1).length ≤ 640; omega, ?_⟩) B.int
    refine sa_cons (se_var (i := 3) rfl (sa_cons (se_var (i := 4) rfl ?_)))
    refine sa_cons (se_if (st_cmp op_eq eqT_w (nomark _) (se_var (i := 5) rfl (se_str ⟨_, _, rfl, rfl, fun b2 hb2 => ?_⟩))))
    refine if2_f (by rw [hb2]; exact decide_eq_false (nm_dash qn)) ?_
    refine se_var (i := 5) rfl (sa_nil ⟨by show 5 ≤ sizeLine; decide, ?_⟩)
    exact h _ ((((e1.trans e1').trans e2).trans e3).trans e4)
abbrev s_is_time : Stmt := top 27
theorem sc_is_time : FnScope ["value"] ["value"] (defScope s_is_time) := ⟨rfl, rfl, rfl, by decide +kernel, rfl, by decide +kernel, by decide +kernel⟩
def S_is_time : SpW := S_t fun ws mu => ∃ i : Nat, ws = [.int (i : Nat)] ∧ 1 ≤ i
theorem d_is_time (D : Dfn K mg "is_time_of_record" s_is_time ["value"]) (D_integer : DefOk P w K mg base "is_integer" ["value"] 1 S_is_integer) : DefOk P w K mg base "is_time_of_record" ["value"] 2 S_is_time := by
  refine dfnOk D sc_is_time (fun ws mu P ⟨⟨i, e, _⟩, _⟩ => by rw [e]; rfl) (fun f cdv A outer s H E hr ws mu Pt ⟨⟨i, e, hi⟩, h⟩ => ?_)
  subst e
  refine sss_cons (ss_ret (se_and (se_callD D_integer (hr.mono (by decide)) (sa_cons (se_var (i := 0) rfl (sa_nil ?_))))))
  refine ⟨⟨_, rfl⟩, fun mu1 e1 => ?_⟩
  refine se_one (se_cmp op_ge cmpN_w (nomark _) (se_var (i := 0) rfl (se_int ⟨_, _, rfl, rfl, fun b hb => ?_⟩)))
  have : b = true := by rw [hb]; simp; omega
  rw [this]
  exact h _ e1
abbrev s_is_record : Stmt := top 26
theorem sc_is_record : FnScope ["value", "begin", "end", "key", "sort", "answer"] ["value"] (defScope s_is_record) := ⟨rfl, rfl, rfl, by decide +kernel, rfl, by decide +kernel, by decide +kernel⟩
def S_is_record : SpW := S_t fun ws mu => ∃ r, ws = [recW r] ∧ RecOk r
theorem d_is_record (D : Dfn K mg "is_record" s_is_record ["value"]) (B : Bl mg) (T : KTup K mg "SORTS" sorts) (Td : KDic K w mg "ANSWERS" answersOf) (D_tuple : DefOk P w K mg base "is_tuple" ["value", "least", "most"] 1 S_is_tuple) (D_time : DefOk P w K mg base "is_time_of_record" ["value"] 2 S_is_time) (D_name : DefOk P w K mg base "is_name" ["value"] 1 S_is_name) : DefOk P w K mg base "is_record" ["value"] 3 S_is_record := by
  refine dfnOk D sc_is_record (fun ws mu P ⟨⟨i, e, _⟩, _⟩ => by rw [e]; rfl) (fun f cdv A outer s H E hr ws mu Pt ⟨⟨r, e, ok⟩, h⟩ => ?_)
  subst e
  have hu65 : (A.deeper (PyProof.Rows.envOfC "is_record" (defScope s_is_record) s.heap.objs.size f cdv)).units + 65 < cLine := by have := hr.un; omega
  obtain ⟨us, eu, lu⟩ := recW_five r
  refine sss_cons (ss_if (st_not (st_val ?_)))
  refine se_callD D_tuple (hr.mono (by decide)) (sa_cons (se_var (i := 0) rfl (sa_cons (se_int (sa_cons (se_int (sa_nil ?_)))))))
  refine ⟨us, 5, 5, by rw [eu], fun r1 mu1 hr1 e1 => ?_⟩
  have hr1' : r1 = true := by rw [hr1, lu]; decide
  rw [hr1']
  refine sss_nil ?_
  clear eu lu
  obtain ⟨rb, re, rk, rs⟩ := r
  have so := sorts_nm rs ok.so
  have nmt : ∀ w ∈ sorts, NmOk w := sorts_nm
  refine sss_cons (ss_asg (se_var (i := 0) rfl ?_))
  refine sg_tup (sgs_cons (sg_name (i := 1) (sgs_cons (sg_name (i := 2) (sgs_cons (sg_name (i := 3) (sgs_cons (sg_name (i := 4) (sgs_cons (sg_name (i := 5) (sgs_nil ?_) sc_is_record.nd)) sc_is_record.nd)) sc_is_record.nd)) sc_is_record.nd)) sc_is_record.nd))
  refine sss_cons (ss_if (st_of_w (sw_or (st_not (st_val (se_callD D_time (hr.mono (by decide)) (sa_cons (se_var (i := 1) rfl (sa_nil ?_)))))))))
  refine ⟨⟨rb, rfl, ok.b1⟩, fun mu2 e2 => ?_⟩
  refine sw_or (st_not (st_val (se_callD D_name (hr.mono (by decide)) (sa_cons (se_var (i := 3) rfl (sa_nil ?_))))))
  refine ⟨⟨rk, rfl, ok.nm⟩, fun mu3 e3 => ?_⟩
  refine sw_or1 (st_cmp (op_notInT hu65) (in_w true) (by rfl) (se_var (i := 4) rfl (se_globT T ?_)))
  refine in_namesE (ns := sorts) so nmt fun b hb => ?_
  have hb' : b = false := by rw [hb, decide_eq_true ok.so]; rfl
  rw [hb']
  refine sss_nil ?_
  have e123 := (e1.trans e2).trans e3
  cases re with
  | none =>
    refine sss_cons (ss_if (st_cmp op_isN isN_w (nomark _) (se_var (i := 2) rfl (se_non ⟨rfl, fun b2 hb2 => ?_⟩))))
    rw [hb2]
    refine sss_cons (ss_ret (se_cmp op_isN isN_w (nomark _) (se_var (i := 5) rfl (se_non ⟨rfl, fun b3 hb3 => ?_⟩))))
    rw [hb3]
    exact h _ e123
  | some q =>
    obtain ⟨q1, q2, ys, hys, hq⟩ := ok.en q rfl
    have yn := (answers_nm hys).2
    refine sss_cons (ss_if (st_cmp op_isN isN_w (nomark _) (se_var (i := 2) rfl (se_non ⟨rfl, fun b2 hb2 => ?_⟩))))
    rw [hb2]
    refine sss_nil ?_
    refine sss_cons (ss_ret (se_and (se_callD D_time (hr.mono (by decide)) (sa_cons (se_var (i := 2) rfl (sa_nil ?_))))))
    refine ⟨⟨q.1, rfl, by have := ok.b1; omega⟩, fun mu4 e4 => ?_⟩
    refine se_and (se_cmp op_lt cmpN_w (nomark _) (se_var (i := 1) rfl (se_var (i := 2) rfl ⟨_, _, rfl, rfl, fun b4 hb4 => ?_⟩)))
    refine bW_t (by rw [hb4]; exact decide_eq_true (by omega)) ?_
    refine se_one (se_cmp (op_inT hu65) (in_w false) (by rfl) (se_var (i := 5) rfl (se_globIx Td (se_var (i := 4) rfl ⟨_, ys, rfl, hys, ?_⟩))))
    refine in_namesE (ns := ys) (yn q.2 hq) yn fun b5 hb5 => ?_
    have hb5' : b5 = true := by rw [hb5, decide_eq_true hq]; rfl
    rw [hb5']
    exact h _ (e123.trans e4)
abbrev s_are_different : Stmt := top 11
theorem sc_are_different : FnScope ["names"] ["names"] (defScope s_are_different) := ⟨rfl, rfl, rfl, by decide +kernel, rfl, by decide +kernel, by decide +kernel⟩
def S_are_different : SpW := S_t fun ws mu => ∃ a, ∃ ns : List Int, ws = [.m a] ∧ mu a = some (.lst (ns.map W.int)) ∧ ns.Nodup ∧ ns.length ≤ 4000
theorem d_are_different (D : Dfn K mg "are_different" s_are_different ["names"]) (B : Bl mg) : DefOk P w K mg base "are_different" ["names"] 1 S_are_different := by
  refine dfnOk D sc_are_different (fun ws mu P ⟨⟨_, _, e, _⟩, _⟩ => by rw [e]; rfl) (fun f cdv A outer s H E hr ws mu Pt ⟨⟨a, ns, e, ha, nd, hl⟩, h⟩ => ?_)
  subst e
  refine sss_cons (ss_ret (se_cmp op_eq eqN_w (nomark _) (se_lenSetI (se_var (i := 0) rfl ⟨a, ns, rfl, ha, nd, hl, ?_⟩) B.len B.set)))
  refine se_len (se_var (i := 0) rfl ⟨_, ha, _, _, rfl, rfl, fun b hb => ?_⟩) B.len
  have : b = true := by rw [hb, List.length_map]; simp
  rw [this]
  exact h _ Ext.refl
abbrev s_keys_of : Stmt := top 28
theorem sc_keys_of : FnScope ["history", "_", "key"] ["history"] (defScope s_keys_of) := ⟨rfl, rfl, rfl, by decide +kernel, rfl, by decide +kernel, by decide +kernel⟩
def S_keys_of : SpW := fun ws mu P => ∃ h, ws = [histW h] ∧ h.length ≤ 1000 ∧ ∀ y mu' (ys : List Str), mu' y = some (.lst (ys.map W.str)) → (∀ z ∈ ys, ∃ r ∈ h, r.k = z) → ys.length ≤ h.length → Ext mu mu' → P (.m y) mu'
theorem d_keys_of (D : Dfn K mg "keys_of" s_keys_of ["history"]) (B : Bl mg) : DefOk P w K mg base "keys_of" ["history"] 1 S_keys_of := by
  refine dfnOk D sc_keys_of (fun ws mu P ⟨_, e, _⟩ => by rw [e]; rfl) (fun f cdv A outer s H E hr ws mu Pt ⟨hi, e, hl, h⟩ => ?_)
  subst e
  refine sss_cons (ss_ret (se_sortTx hr ?_ B.sorted B.set))
  refine se_lc (own := [("_", 1), ("key", 2)]) (.tp [.nm 1, .nm 1, .nm 2, .nm 1, .nm 1]) rfl sc_keys_of.nd (blkOk_by (N := ["history", "_", "key"]) (sc := defScope s_keys_of) (by decide +kernel)) rfl (fun _ _ _ _ _ => (pg_tup rfl (pgs_cons (pg_name (i := 1) sc_keys_of.nd rfl (Or.inl rfl)) (pgs_cons (pg_name (i := 1) sc_keys_of.nd rfl (Or.inl rfl)) (pgs_cons (pg_name (i := 2) sc_keys_of.nd rfl (Or.inl rfl)) (pgs_cons (pg_name (i := 1) sc_keys_of.nd rfl (Or.inl rfl)) (pgs_cons (pg_name (i := 1) sc_keys_of.nd rfl (Or.inl rfl)) pgs_nil))))))) (by intro _; rfl) ?_
  refine si_tup (se_var (i := 0) rfl ?_)
  refine lc_pure (fun w => match w with | .tup [_, _, k, _, _] => k | _ => .non) (fun _ _ => trivial) (by rw [List.length_map]; exact Nat.le_trans hl (by decide)) ?_ InBlk.mono ?_
  · intro u mu' hu he
    obtain ⟨r, hr', rfl⟩ := List.mem_map.mp hu
    exact ⟨_, rfl, fun s' H C cl fp => se_var (i := 2) rfl ⟨rfl, Ext.refl⟩⟩
  intro Dd mu' hD he he2
  have em : (hi.map recW).map (fun w => match w with | .tup [_, _, k, _, _] => k | _ => .non) = (hi.map (·.k)).map W.str := by
    rw [List.map_map, List.map_map]
    rfl
  rw [em] at he2 ⊢
  refine ⟨Dd, hi.map (·.k), rfl, setM_same, by rw [List.length_map]; exact hl, fun y ys ny hm hl2 => ?_⟩
  refine h y _ ys setM_same (fun z hz => ?_) (by rw [List.length_map] at hl2; exact hl2) (he2.set (free_of he2 ny))
  obtain ⟨r, hr', e⟩ := List.mem_map.mp ((hm z).mp hz)
  exact ⟨r, hr', e⟩
abbrev s_numbers_of : Stmt := top 29
theorem sc_numbers_of : FnScope ["history", "key", "number", "record"] ["history", "key"] (defScope s_numbers_of) := ⟨rfl, rfl, rfl, by decide +kernel, rfl, by decide +kernel, by decide +kernel⟩
def S_numbers_of : SpW := fun ws mu P => ∃ h k, ws = [histW h, .str k] ∧ h.length ≤ 1000 ∧ ∀ y mu' (us : List W), mu' y = some (.lst us) → us.length = (h.filter fun r => decide (r.k = k)).length → Ext mu mu' → P (.m y) mu'
theorem d_numbers_of (D : Dfn K mg "numbers_of" s_numbers_of ["history", "key"]) (B : Bl mg) : DefOk P w K mg base "numbers_of" ["history", "key"] 1 S_numbers_of := by
  refine dfnOk D sc_numbers_of (fun ws mu P ⟨_, _, e, _⟩ => by rw [e]; rfl) (fun f cdv A outer s H E hr ws mu Pt ⟨hi, k, e, hl, h⟩ => ?_)
  subst e
  refine sss_cons (ss_ret ?_)
  refine se_lc1 (own := [("number", 2), ("record", 3)]) (.tp [.nm 2, .nm 3]) rfl sc_numbers_of.nd (blkOk_by (N := ["history", "key", "number", "record"]) (sc := defScope s_numbers_of) (by decide +kernel)) rfl (fun _ _ _ _ _ => (pg_tup rfl (pgs_cons (pg_name (i := 2) sc_numbers_of.nd rfl (Or.inl rfl)) (pgs_cons (pg_name (i := 3) sc_numbers_of.nd rfl (Or.inl rfl)) pgs_nil)))) (by intro _; rfl) ?_
  refine si_enumT (se_var (i := 0) rfl ?_) B.enumerate
  refine lc_filter (pK k) (fun w => match w with | .tup [i, _] => i | _ => .non) (fun _ _ => trivial) (by rw [enumW_len, List.length_map]; exact Nat.le_trans hl (by decide)) ?_ InBlk.mono ?_
  · intro u mu' hu he
    obtain ⟨i, hi', eu⟩ := List.mem_iff_getElem.mp hu
    have e2 := List.getElem?_eq_getElem hi'
    rw [enumW_get, eu, List.getElem?_map] at e2
    cases hr' : hi[i]? with
    | none => rw [hr'] at e2; cases e2
    | some r =>
    rw [hr'] at e2
    have e2 : u = .tup [.int (i : Nat), recW r] := (Option.some.inj e2).symm
    subst e2
    refine ⟨_, rfl, fun s' H C cl fp => ?_⟩
    refine st_cmp op_eq eqT_w (nomark _) (se_ix (se_var (i := 3) rfl (se_int ⟨_, rfl, se_var (i := 1) rfl ⟨_, _, rfl, rfl, fun b hb => ?_⟩⟩)))
    exact ⟨hb, Ext.refl, fun _ => fun s'' H' C' cl' fp' => se_var (i := 2) rfl ⟨rfl, Ext.refl⟩⟩
  · intro Dd mu' hD he he2
    refine h Dd _ _ setM_same ?_ he2
    rw [List.length_map]
    unfold enumW
    exact nums_len hi _ fun i r => rfl
end
end K1
set_option Elab.async false
set_option linter.all false
set_option maxRecDepth 100000
/-! is_history, check_history. -/
namespace K1
open PySem L2 Dv
def beginsOf (h : List Rec) : List Int := h.map fun r => ((r.b : Nat) : Int)
def endsOf (h : List Rec) : List Int := h.filterMap fun r => r.e.map fun q => ((q.1 : Nat) : Int)
structure HistOk (h : List Rec) : Prop where
  len : h.length ≤ 24
  each : ∀ r ∈ h, RecOk r
  up : (beginsOf h).Pairwise (· < ·)
  nd : (beginsOf h ++ endsOf h).Nodup
  few : ∀ k, (h.filter fun r => decide (r.k = k)).length ≤ 8
theorem ends_len (h : List Rec) : (endsOf h).length ≤ h.length := List.length_filterMap_le ..
def g0 : W → W := fun w => match w with | .tup [b, _, _, _, _] => b | _ => .non
def g1 : W → W := fun w => match w with | .tup [_, e, _, _, _] => e | _ => .non
def p1 : W → Bool := fun w => match w with | .tup [_, e, _, _, _] => !isNo e | _ => false
theorem begins_map (h : List Rec) : (h.map recW).map g0 = (beginsOf h).map W.int := by
  unfold beginsOf
  rw [List.map_map, List.map_map]
  rfl
theorem ends_map : ∀ h : List Rec, ((h.map recW).filter p1).map g1 = (endsOf h).map W.int
  | [] => rfl
  | r :: h => by
    have ih := ends_map h
    obtain ⟨rb, re, rk, rs⟩ := r
    cases re with
    | none => exact ih
    | some q =>
      show W.int (q.1 : Nat) :: ((h.map recW).filter p1).map g1 = W.int (q.1 : Nat) :: (endsOf h).map W.int
      rw [ih]
section
variable {P : Program} {w : World} {K : PySem.W.Frag} {mg : Str → Option Value} {base : Heap}
abbrev s_is_history : Stmt := top 24
theorem sc_is_history : FnScope ["value", "record", "begins", "begin", "_", "ends", "end", "key"] ["value"] (defScope s_is_history) := ⟨rfl, rfl, rfl, by decide +kernel, rfl, by decide +kernel, by decide +kernel⟩
def S_is_history : SpW := S_t fun ws mu => ∃ h, ws = [histW h] ∧ HistOk h
theorem d_is_history (D : Dfn K mg "is_history" s_is_history ["value"]) (B : Bl mg) (K1 : KInt mg "MOST_RECORDS" 24) (K2 : KInt mg "MOST_OF_A_KEY" 8) (D_tuple : DefOk P w K mg base "is_tuple" ["value", "least", "most"] 1 S_is_tuple) (D_record : DefOk P w K mg base "is_record" ["value"] 3 S_is_record)
    (D_rising : DefOk P w K mg base "is_rising" ["values"] 1 S_is_rising) (D_diff : DefOk P w K mg base "are_different" ["names"] 1 S_are_different) (D_keys : DefOk P w K mg base "keys_of" ["history"] 1 S_keys_of) (D_nums : DefOk P w K mg base "numbers_of" ["history", "key"] 1 S_numbers_of) : DefOk P w K mg base "is_history" ["value"] 4 S_is_history := by
  refine dfnOk D sc_is_history (fun ws mu P ⟨⟨i, e, _⟩, _⟩ => by rw [e]; rfl) (fun f cdv A outer s H E hr ws mu Pt ⟨⟨hi, e, ok⟩, h⟩ => ?_)
  subst e
  have hl := ok.len
  have le := ends_len hi
  refine sss_cons (ss_if (st_of_w (sw_or (st_not (st_val (se_callD D_tuple (hr.mono (by decide)) (sa_cons (se_var (i := 0) rfl (sa_cons (se_int (sa_cons (se_globI K1 (sa_nil ?_)))))))))))))
  refine ⟨hi.map recW, 0, 24, rfl, fun r1 mu1 hr1 e1 => ?_⟩
  have hr1' : r1 = true := by rw [hr1, List.length_map]; simp; omega
  rw [hr1']
  refine sw_or1 (st_not (st_val (se_all ?_ B.all)))
  refine se_lc (own := [("record", 1)]) (.nm 1) rfl sc_is_history.nd (blkOk_by (N := ["value", "record", "begins", "begin", "_", "ends", "end", "key"]) (sc := defScope s_is_history) (by decide +kernel)) rfl (fun _ _ _ _ _ => (pg_name (i := 1) sc_is_history.nd rfl (Or.inl rfl))) (by intro _; rfl) ?_
  refine si_tup (se_var (i := 0) rfl ?_)
  refine lc_all_t (fun _ _ => trivial) (by rw [List.length_map]; exact Nat.le_trans hl (by decide)) InBlk.mono ?_ fun mu2 e2 => ?_
  · intro u mu' hu he
    obtain ⟨r, hr', rfl⟩ := List.mem_map.mp hu
    refine ⟨_, rfl, fun s' H C cl fp => ?_⟩
    refine se_callD D_record (hr.mono (by decide)) (sa_cons (se_var (i := 1) rfl (sa_nil ?_)))
    exact ⟨⟨r, rfl, ok.each r hr'⟩, fun mu3 e3 => ⟨rfl, e3⟩⟩
  refine sss_nil ?_
  have e12 := e1.trans e2
  -- begins
  refine sss_cons ?_
  refine ss_setlc (i := 2) (own := [("begin", 3), ("_", 4)]) (.tp [.nm 3, .nm 4, .nm 4, .nm 4, .nm 4]) rfl sc_is_history.nd rfl rfl (sw_true rfl rfl rfl (by decide +kernel)) (blkOk_by (N := ["value", "record", "begins", "begin", "_", "ends", "end", "key"]) (sc := defScope s_is_history) (by decide +kernel)) rfl (fun _ _ _ _ _ => (pg_tup rfl (pgs_cons (pg_name (i := 3) sc_is_history.nd rfl (Or.inl rfl)) (pgs_cons (pg_name (i := 4) sc_is_history.nd rfl (Or.inl rfl)) (pgs_cons (pg_name (i := 4) sc_is_history.nd rfl (Or.inl rfl)) (pgs_cons (pg_name (i := 4) sc_is_history.nd rfl (Or.inl rfl)) (pgs_cons (pg_name (i := 4) sc_is_history.nd rfl (Or.inl rfl)) pgs_nil))))))) (by intro _; rfl) ?_
  refine si_tup (se_var (i := 0) rfl ?_)
  refine lc_pure g0 (fun _ _ => trivial) (by rw [List.length_map]; exact Nat.le_trans hl (by decide)) ?_ InBlk.mono ?_
  · intro u mu' hu he
    obtain ⟨r, hr', rfl⟩ := List.mem_map.mp hu
    exact ⟨_, rfl, fun s' H C cl fp => se_var (i := 3) rfl ⟨rfl, Ext.refl⟩⟩
  intro Db mu3 hDb e3 e3'
  rw [begins_map] at e3' ⊢
  have hb : (setM mu3 Db (.lst ((beginsOf hi).map W.int))) Db = some (.lst ((beginsOf hi).map W.int)) := setM_same
  generalize setM mu3 Db (.lst ((beginsOf hi).map W.int)) = mu4 at e3' hb ⊢
  -- ends
  refine sss_cons ?_
  refine ss_setlc1 (i := 5) (own := [("_", 4), ("end", 6)]) (.tp [.nm 4, .nm 6, .nm 4, .nm 4, .nm 4]) rfl sc_is_history.nd rfl rfl (sw_true rfl rfl rfl (by decide +kernel)) (blkOk_by (N := ["value", "record", "begins", "begin", "_", "ends", "end", "key"]) (sc := defScope s_is_history) (by decide +kernel)) rfl (fun _ _ _ _ _ => (pg_tup rfl (pgs_cons (pg_name (i := 4) sc_is_history.nd rfl (Or.inl rfl)) (pgs_cons (pg_name (i := 6) sc_is_history.nd rfl (Or.inl rfl)) (pgs_cons (pg_name (i := 4) sc_is_history.nd rfl (Or.inl rfl)) (pgs_cons (pg_name (i := 4) sc_is_history.nd rfl (Or.inl rfl)) (pgs_cons (pg_name (i := 4) sc_is_history.nd rfl (Or.inl rfl)) pgs_nil))))))) (by intro _; rfl) ?_
  refine si_tup (se_var (i := 0) rfl ?_)
  refine lc_filter p1 g1 (fun _ _ => trivial) (by rw [List.length_map]; exact Nat.le_trans hl (by decide)) ?_ InBlk.mono ?_
  · intro u mu' hu he
    obtain ⟨r, hr', rfl⟩ := List.mem_map.mp hu
    refine ⟨_, rfl, fun s' H C cl fp => ?_⟩
    refine st_cmp op_notN notN_w (nomark _) (se_var (i := 6) rfl (se_non ⟨rfl, fun b hb => ?_⟩))
    exact ⟨hb, Ext.refl, fun _ => fun s'' H' C' cl' fp' => se_var (i := 6) rfl ⟨rfl, Ext.refl⟩⟩
  intro De mu5 hDe e5 e5'
  rw [ends_map] at e5' ⊢
  have he : (setM mu5 De (.lst ((endsOf hi).map W.int))) De = some (.lst ((endsOf hi).map W.int)) := setM_same
  generalize setM mu5 De (.lst ((endsOf hi).map W.int)) = mu6 at e5' he ⊢
  have hb6 := e5' _ _ hb
  have e6 := (e12.trans e3').trans e5'
  -- rising, different
  refine sss_cons (ss_if (st_of_w (sw_or (st_not (st_val (se_callD D_rising (hr.mono (by decide)) (sa_cons (se_var (i := 2) rfl (sa_nil ?_)))))))))
  refine ⟨_, .m Db, rfl, .inr ⟨Db, rfl, hb6⟩, okUs_int (by unfold beginsOf; rw [List.length_map]; exact Nat.le_trans hl (by decide)), fun r2 mu7 hr2 e7 => ?_⟩
  rw [hr2, rising_int ok.up]
  refine sw_or1 (st_not (st_val (se_callD D_diff (hr.mono (by decide)) (sa_cons (se_lst (sa_starL ?_))))))
  refine se_var (i := 2) rfl ⟨Db, _, rfl, e7 _ _ hb6, sa_starL (se_var (i := 5) rfl ⟨De, _, rfl, e7 _ _ he, sa_nil ⟨?_, fun l nl => sa_nil ?_⟩⟩)⟩
  · rw [List.append_nil, List.length_append, List.length_map, List.length_map]
    have : (beginsOf hi).length = hi.length := by unfold beginsOf; rw [List.length_map]
    exact Nat.le_trans (by omega : (beginsOf hi).length + (endsOf hi).length ≤ 48) (by decide)
  refine ⟨⟨l, beginsOf hi ++ endsOf hi, rfl, by rw [setM_same, List.append_nil, List.map_append], ok.nd, ?_⟩, fun mu8 e8 => ?_⟩
  · have : (beginsOf hi).length = hi.length := by unfold beginsOf; rw [List.length_map]
    rw [List.length_append]
    omega
  refine sss_nil ?_
  have e9 := (e6.trans e7).trans ((Ext.refl.set nl).trans e8)
  -- of each key
  refine sss_cons (ss_ret (se_all ?_ B.all))
  refine se_lc (own := [("key", 7)]) (.nm 7) rfl sc_is_history.nd (blkOk_by (N := ["value", "record", "begins", "begin", "_", "ends", "end", "key"]) (sc := defScope s_is_history) (by decide +kernel)) rfl (fun _ _ _ _ _ => (pg_name (i := 7) sc_is_history.nd rfl (Or.inl rfl))) (by intro _; rfl) ?_
  refine si_lst (se_callD D_keys (hr.mono (by decide)) (sa_cons (se_var (i := 0) rfl (sa_nil ?_))))
  refine ⟨hi, rfl, by omega, fun y mu10 ys hy hm hyl e10 => ⟨_, hy, ?_⟩⟩
  refine lc_all_t (fun mu' e => e _ _ hy) (by rw [List.length_map]; exact Nat.le_trans (by omega : ys.length ≤ 24) (by decide)) InBlk.mono ?_ fun mu11 e11 => ?_
  · intro u mu' hu he
    obtain ⟨z, hz, rfl⟩ := List.mem_map.mp hu
    refine ⟨_, rfl, fun s' H C cl fp => ?_⟩
    refine se_cmp op_le cmpN_w (nomark _) (se_len ?_ B.len)
    refine se_callD D_nums (hr.mono (by decide)) (sa_cons (se_var (i := 0) rfl (sa_cons (se_var (i := 7) rfl (sa_nil ?_)))))
    refine ⟨hi, z, rfl, by omega, fun y2 mu12 us hu2 hl2 e12 => ⟨us, hu2, se_globI K2 ⟨_, _, rfl, rfl, fun b hb => ?_⟩⟩⟩
    have : b = true := by
      have := ok.few z
      rw [hb, hl2]
      simp only [decide_eq_true_eq]
      omega
    rw [this]
    exact ⟨rfl, e12⟩
  · exact h _ ((e9.trans e10).trans e11)
abbrev s_check_history : Stmt := top 25
theorem sc_check_history : FnScope ["value"] ["value"] (defScope s_check_history) := ⟨rfl, rfl, rfl, by decide +kernel, rfl, by decide +kernel, by decide +kernel⟩
def S_check_history : SpW := fun ws mu P => ∃ h, ws = [histW h] ∧ HistOk h ∧ ∀ mu', Ext mu mu' → P .non mu'
theorem d_check_history (D : Dfn K mg "check_history" s_check_history ["value"]) (D_is : DefOk P w K mg base "is_history" ["value"] 4 S_is_history) : DefOk P w K mg base "check_history" ["value"] 5 S_check_history := by
  refine dfnOk D sc_check_history (fun ws mu P ⟨i, e, _⟩ => by rw [e]; rfl) (fun f cdv A outer s H E hr ws mu Pt ⟨hi, e, ok, h⟩ => ?_)
  subst e
  refine sss_cons (ss_if (st_not (st_val (se_callD D_is (hr.mono (by decide)) (sa_cons (se_var (i := 0) rfl (sa_nil ?_)))))))
  exact ⟨⟨hi, rfl, ok⟩, fun mu1 e1 => sss_nil (sss_nil (h _ e1))⟩
end
end K1
set_option Elab.async false
set_option linter.all false
set_option maxRecDepth 100000
/-! Showing. -/
namespace K1
open PySem L2 Dv
/-- rows told by values are rows told by lines -/
theorem rows_of {α : Type} {mu' : Mu} {g : W → List W} {f : α → W} {k : α → List Str} {Q : Addr → Prop} (hg : ∀ x, g (f x) = stW (k x)) : ∀ {xs : List α} {rs : List (Addr × W)}, rs.map (·.2) = xs.map f → (∀ r ∈ rs, mu' r.1 = some (.lst (g r.2)) ∧ Q r.1) →
    ∃ r2 : List (Addr × List Str), (rs.map fun r => W.m r.1) = r2.map (fun r => W.m r.1) ∧ r2.map (·.2) = xs.map k ∧ ∀ r ∈ r2, mu' r.1 = some (.lst (stW r.2)) ∧ Q r.1
  | [], [], _, _ => ⟨[], rfl, rfl, fun r hr => (by cases hr)⟩
  | x :: xs, [], e, _ => by cases e
  | [], r :: rs, e, _ => by cases e
  | x :: xs, r :: rs, e, h => by
    simp only [List.map_cons, List.cons.injEq] at e
    obtain ⟨r2, e1, e2, h2⟩ := rows_of hg e.2 fun q hq => h q (by simp [hq])
    refine ⟨(r.1, k x) :: r2, by rw [List.map_cons, List.map_cons, e1], by rw [List.map_cons, List.map_cons, e2], fun q hq => ?_⟩
    rcases List.mem_cons.mp hq with z | z
    · rw [z]
      have := h r (by simp)
      rw [e.1, hg] at this
      exact this
    · exact h2 q z
def partV : W → W
  | .int i => .str (Str.ofString (toString i))
  | .non => .str "-"
  | w => w
def gR (w : W) : List W := match w with | .tup [b, e, k, s, a] => [partV b, partV e, k, s, partV a] | _ => []
theorem gR_rec (r : Rec) : gR (recW r) = stW (recL r) := by
  obtain ⟨rb, re, rk, rs⟩ := r
  cases re <;> rfl
def gE (w : W) : List W := match w with | .tup [z, x] => [z, partV x] | _ => []
theorem gE_ev (e : Ev) : gE (evW e) = stW (evL e) := by cases e <;> rfl
theorem num_log {i : Nat} (h : i < 10 ^ 18) : ((i : Nat) : Int).natAbs.log2 < 1920 := by
  have := log2_lt (n := i) (m := 60) (Nat.lt_of_lt_of_le h (by decide)) (by decide)
  rw [Int.natAbs_natCast]
  omega
theorem rec_ln {r : Rec} (ok : RecOk r) : LnOk (recL r) := by
  obtain ⟨rb, re, rk, rs⟩ := r
  have h1 := (numS_len ok.b2).2
  have h2 := ok.nm.2.1
  have h3 := (sorts_nm rs ok.so).2.1
  refine ⟨by show 5 ≤ 30; decide, fun z hz => ?_⟩
  unfold recL at hz
  simp only [List.mem_cons, List.not_mem_nil, or_false] at hz
  cases re with
  | none =>
    rcases hz with rfl | rfl | rfl | rfl | rfl
    · exact Nat.le_trans h1 (by decide)
    · exact (by decide +kernel : ("-" : Str).length ≤ 20)
    · exact Nat.le_trans h2 (by decide)
    · exact Nat.le_trans h3 (by decide)
    · exact (by decide +kernel : ("-" : Str).length ≤ 20)
  | some q =>
    obtain ⟨q1, q2, ys, hys, hq⟩ := ok.en q rfl
    have h4 := ((answers_nm hys).2 q.2 hq).2.1
    have h5 := (numS_len q2).2
    rcases hz with rfl | rfl | rfl | rfl | rfl
    · exact Nat.le_trans h1 (by decide)
    · exact Nat.le_trans h5 (by decide)
    · exact Nat.le_trans h2 (by decide)
    · exact Nat.le_trans h3 (by decide)
    · exact Nat.le_trans h4 (by decide)
theorem ev_ln {e : Ev} (ok : EvOk e) : LnOk (evL e) := by
  cases e with
  | beg n =>
    refine ⟨by show 2 ≤ 30; decide, fun z hz => ?_⟩
    rcases List.mem_cons.mp hz with rfl | hz
    · exact Nat.le_trans begin_nm.2.1 (by decide)
    · rw [List.mem_singleton.mp hz]; exact Nat.le_trans (show NmOk n from ok).2.1 (by decide)
  | num w i =>
    refine ⟨by show 2 ≤ 30; decide, fun z hz => ?_⟩
    rcases List.mem_cons.mp hz with rfl | hz
    · exact Nat.le_trans (numbered_nm _ ok.1).2.1 (by decide)
    · rw [List.mem_singleton.mp hz]; exact Nat.le_trans (numS_len ok.2).2 (by decide)
section
variable {P : Program} {w : World} {K : PySem.W.Frag} {mg : Str → Option Value} {base : Heap}
abbrev s_text_of : Stmt := top 34
theorem sc_text_of : FnScope ["lines", "words"] ["lines"] (defScope s_text_of) := ⟨rfl, rfl, rfl, by decide +kernel, rfl, by decide +kernel, by decide +kernel⟩
def S_text_of : SpW := fun ws mu P => ∃ (Ln : Addr) (rs : List (Addr × List Str)), ws = [.m Ln] ∧ mu Ln = some (.lst (rs.map fun r => W.m r.1)) ∧ (∀ r ∈ rs, mu r.1 = some (.lst (stW r.2)) ∧ LnOk r.2) ∧ rs.length ≤ 60 ∧ ∀ mu', Ext mu mu' → P (.str (pageOf (rs.map (·.2)))) mu'
theorem d_text_of (D : Dfn K mg "text_of" s_text_of ["lines"]) : DefOk P w K mg base "text_of" ["lines"] 1 S_text_of := by
  refine dfnOk D sc_text_of (fun ws mu P ⟨q, _, e, _⟩ => by rw [e]; rfl) (fun f cdv A outer s H E hr ws mu Pt ⟨Ln, re, e, hL, hR, hl, h⟩ => ?_)
  subst e
  refine sss_cons (ss_ret (se_join (se_str ⟨_, rfl, ?_⟩)))
  refine se_lc (own := [("words", 1)]) (.nm 1) rfl sc_text_of.nd (blkOk_by (N := ["lines", "words"]) (sc := defScope s_text_of) (by decide +kernel)) rfl (fun _ _ _ _ _ => (pg_name (i := 1) sc_text_of.nd rfl (Or.inl rfl))) (by intro _; rfl) ?_
  refine si_lst (se_var (i := 0) rfl ⟨_, hL, ?_⟩)
  intro Dd hDd
  refine ⟨fun i acc mu2 => acc = (re.take i).map (fun r => W.str (Txt.join " " r.2)) ∧ Ext mu mu2, ⟨rfl, Ext.refl⟩, fun i acc mu2 _ q => q.2 _ _ hL, fun i u acc mu2 hu q => ?_, fun acc mu2 q => ?_⟩
  · obtain ⟨ea, ex⟩ := q
    rw [List.getElem?_map] at hu
    cases ht : re[i]? with
    | none => rw [ht] at hu; cases hu
    | some r =>
    rw [ht] at hu
    cases hu
    have rm := List.mem_of_getElem? ht
    have lo := (hR r rm).2
    refine ⟨by rw [ea, List.length_map, List.length_take]; exact Nat.lt_of_le_of_lt (by omega : min i re.length ≤ 60) (by decide), _, rfl, fun s H C cl fp => ?_⟩
    refine se_join (se_str ⟨_, rfl, ?_⟩)
    refine se_var (i := 1) rfl ?_
    have sm := sum_le lo.2
    have l1 : (" " : Str).length = 1 := by decide +kernel
    refine ⟨r.1, r.2, rfl, ex _ _ (hR r rm).1, by rw [l1]; have := lo.1; omega, ?_⟩
    exact ⟨by rw [ea, List.take_add_one, ht, List.map_append]; rfl, ex⟩
  · obtain ⟨ea, ex⟩ := q
    rw [List.length_map, List.take_length] at ea
    have em : acc = ((re.map (·.2)).map (Txt.join " ")).map W.str := by rw [ea, List.map_map, List.map_map]; rfl
    have l1 : ("\n" : Str).length = 1 := by decide +kernel
    have each := (page_len (ls := re.map (·.2)) (by rw [List.length_map]; exact hl) fun l hl => by
      obtain ⟨r, hr, rfl⟩ := List.mem_map.mp hl
      exact (hR r hr).2).1
    have sm := sum_le each
    rw [List.length_map, List.length_map] at sm
    refine ⟨Dd, (re.map (·.2)).map (Txt.join " "), rfl, by rw [setM_same, em], by rw [l1, List.length_map, List.length_map]; omega, ?_⟩
    exact h _ (ex.set hDd)
abbrev s_words_of : Stmt := top 35
theorem sc_words_of : FnScope ["record", "begin", "end", "key", "sort", "answer"] ["record"] (defScope s_words_of) := ⟨rfl, rfl, rfl, by decide +kernel, rfl, by decide +kernel, by decide +kernel⟩
def S_words_of : SpW := fun ws mu P => ∃ r, ws = [recW r] ∧ RecOk r ∧ ∀ y mu', mu y = none → mu' y = some (.lst (gR (recW r))) → Ext mu mu' → P (.m y) mu'
theorem d_words_of (D : Dfn K mg "words_of_record" s_words_of ["record"]) (B : Bl mg) : DefOk P w K mg base "words_of_record" ["record"] 1 S_words_of := by
  refine dfnOk D sc_words_of (fun ws mu P ⟨i, e, _⟩ => by rw [e]; rfl) (fun f cdv A outer s H E hr ws mu Pt ⟨r, e, ok, h⟩ => ?_)
  subst e
  obtain ⟨rb, re, rk, rs⟩ := r
  refine sss_cons (ss_asg (se_var (i := 0) rfl ?_))
  refine sg_tup (sgs_cons (sg_name (i := 1) (sgs_cons (sg_name (i := 2) (sgs_cons (sg_name (i := 3) (sgs_cons (sg_name (i := 4) (sgs_cons (sg_name (i := 5) (sgs_nil ?_) sc_words_of.nd)) sc_words_of.nd)) sc_words_of.nd)) sc_words_of.nd)) sc_words_of.nd))
  refine sss_cons (ss_ret (se_lst (sa_cons (se_strI (se_var (i := 1) rfl ⟨_, rfl, num_log ok.b2, ?_⟩) B.str))))
  cases re with
  | none =>
    refine sa_cons (se_if (st_cmp op_isN isN_w (nomark _) (se_var (i := 2) rfl (se_non ⟨rfl, fun b hb => ?_⟩))))
    rw [hb]
    refine se_str (sa_cons (se_var (i := 3) rfl (sa_cons (se_var (i := 4) rfl ?_))))
    refine sa_cons (se_if (st_cmp op_isN isN_w (nomark _) (se_var (i := 5) rfl (se_non ⟨rfl, fun b hb => ?_⟩))))
    rw [hb]
    refine se_str (sa_nil ⟨by show 5 ≤ sizeLine; decide, fun y ny => ?_⟩)
    exact h y _ ny setM_same (Ext.refl.set ny)
  | some q =>
    obtain ⟨q1, q2, ys, hys, hq⟩ := ok.en q rfl
    refine sa_cons (se_if (st_cmp op_isN isN_w (nomark _) (se_var (i := 2) rfl (se_non ⟨rfl, fun b hb => ?_⟩))))
    rw [hb]
    refine se_strI (se_var (i := 2) rfl ⟨_, rfl, num_log q2, ?_⟩) B.str
    refine sa_cons (se_var (i := 3) rfl (sa_cons (se_var (i := 4) rfl ?_)))
    refine sa_cons (se_if (st_cmp op_isN isN_w (nomark _) (se_var (i := 5) rfl (se_non ⟨rfl, fun b hb => ?_⟩))))
    rw [hb]
    refine se_var (i := 5) rfl (sa_nil ⟨by show 5 ≤ sizeLine; decide, fun y ny => ?_⟩)
    exact h y _ ny setM_same (Ext.refl.set ny)
abbrev s_texts : Stmt := top 33
theorem sc_texts : FnScope ["records", "record"] ["records"] (defScope s_texts) := ⟨rfl, rfl, rfl, by decide +kernel, rfl, by decide +kernel, by decide +kernel⟩
def S_texts : SpW := fun ws mu P => ∃ h, ws = [histW h] ∧ h.length ≤ 60 ∧ (∀ r ∈ h, RecOk r) ∧ ∀ mu', Ext mu mu' → P (.str (pageOf (h.map recL))) mu'
theorem d_texts (D : Dfn K mg "text_of_records" s_texts ["records"]) (B : Bl mg) (D_text : DefOk P w K mg base "text_of" ["lines"] 1 S_text_of) (D_words : DefOk P w K mg base "words_of_record" ["record"] 1 S_words_of) : DefOk P w K mg base "text_of_records" ["records"] 2 S_texts := by
  refine dfnOk D sc_texts (fun ws mu P ⟨i, e, _⟩ => by rw [e]; rfl) (fun f cdv A outer s H E hr ws mu Pt ⟨hi, e, hl, ok, h⟩ => ?_)
  subst e
  refine sss_cons (ss_ret (se_callD D_text (hr.mono (by decide)) (sa_cons ?_)))
  refine se_lcN (own := [("record", 1)]) (.nm 1) rfl sc_texts.nd (blkOk_by (N := ["records", "record"]) (sc := defScope s_texts) (by decide +kernel)) rfl (fun _ _ _ _ _ => (pg_name (i := 1) sc_texts.nd rfl (Or.inl rfl))) (by intro _; rfl) ?_
  refine si_tup (se_var (i := 0) rfl ?_)
  refine lc_rows gR (fun _ _ => trivial) (by rw [List.length_map]; exact Nat.le_trans hl (by decide)) ?_ InBlk.mono ?_
  · intro u mu' hu he
    obtain ⟨r, hr', rfl⟩ := List.mem_map.mp hu
    refine ⟨_, rfl, fun s' H C cl fp => ?_⟩
    refine se_callD D_words (hr.mono (by decide)) (sa_cons (se_var (i := 1) rfl (sa_nil ?_)))
    exact ⟨r, rfl, ok r hr', fun y mu2 ny hy e2 => ⟨e2, y, rfl, free_of he ny, hy⟩⟩
  · intro Dd mu' rs hD hD' he er hrs
    obtain ⟨r2, q1, q2, q3⟩ := rows_of (k := recL) (Q := fun a => mu a = none) gR_rec er hrs
    rw [q1]
    have l2 : r2.length = hi.length := by have := congrArg List.length q2; rwa [List.length_map, List.length_map] at this
    refine sa_nil ⟨Dd, r2, rfl, setM_same, fun r hr' => ⟨?_, ?_⟩, by omega, fun mu3 e3 => ?_⟩
    · rw [setM_ne fun z => (by have := (q3 r hr').1; rw [z, hD'] at this; cases this)]
      exact (q3 r hr').1
    · have : r.2 ∈ hi.map recL := by rw [← q2]; exact List.mem_map.mpr ⟨r, hr', rfl⟩
      obtain ⟨x, hx, e⟩ := List.mem_map.mp this
      rw [← e]
      exact rec_ln (ok x hx)
    · rw [q2]
      exact h _ ((he.set (free_of he hD')).trans e3)
abbrev s_show_history : Stmt := top 32
theorem sc_show_history : FnScope ["history"] ["history"] (defScope s_show_history) := ⟨rfl, rfl, rfl, by decide +kernel, rfl, by decide +kernel, by decide +kernel⟩
def S_show_history : SpW := fun ws mu P => ∃ h, ws = [histW h] ∧ HistOk h ∧ ∀ mu', Ext mu mu' → P (.str (pageOf (h.map recL))) mu'
theorem d_show_history (D : Dfn K mg "show_history" s_show_history ["history"]) (D_check : DefOk P w K mg base "check_history" ["value"] 5 S_check_history) (D_texts : DefOk P w K mg base "text_of_records" ["records"] 2 S_texts) : DefOk P w K mg base "show_history" ["history"] 6 S_show_history ∧ DefKw P w K mg base "show_history" "history" 6 S_show_history := by
  refine dfnBoth D sc_show_history (fun _ _ _ _ _ _ _ _ => .of_eq rfl) (fun ws mu P ⟨i, e, _⟩ => by rw [e]; rfl) (fun f cdv A outer s H E hr ws mu Pt ⟨hi, e, ok, h⟩ => ?_)
  subst e
  refine sss_cons (ss_expr (se_callD D_check (hr.mono (by decide)) (sa_cons (se_var (i := 0) rfl (sa_nil ?_)))))
  refine ⟨hi, rfl, ok, fun mu1 e1 => ?_⟩
  refine sss_cons (ss_ret (se_callD D_texts (hr.mono (by decide)) (sa_cons (se_var (i := 0) rfl (sa_nil ?_)))))
  exact ⟨hi, rfl, by have := ok.len; omega, ok.each, fun mu2 e2 => h _ (e1.trans e2)⟩
def runW (es : List Ev) : W := .tup (es.map evW)
abbrev s_show_run : Stmt := top 31
theorem sc_show_run : FnScope ["run", "index", "event", "word", "which"] ["run"] (defScope s_show_run) := ⟨rfl, rfl, rfl, by decide +kernel, rfl, by decide +kernel, by decide +kernel⟩
def S_show_run : SpW := fun ws mu P => ∃ es, ws = [runW es] ∧ es.length ≤ 60 ∧ (∀ e ∈ es, EvOk e) ∧ ∀ mu', Ext mu mu' → P (.str (pageOf (es.map evL))) mu'
theorem d_show_run (D : Dfn K mg "show_run" s_show_run ["run"]) (B : Bl mg) (D_text : DefOk P w K mg base "text_of" ["lines"] 1 S_text_of) (D_event : DefOk P w K mg base "is_event" ["value"] 2 S_is_event) : DefOk P w K mg base "show_run" ["run"] 6 S_show_run ∧ DefKw P w K mg base "show_run" "run" 6 S_show_run := by
  refine dfnBoth D sc_show_run (fun _ _ _ _ _ _ _ _ => .of_eq rfl) (fun ws mu P ⟨i, e, _⟩ => by rw [e]; rfl) (fun f cdv A outer s H E hr ws mu Pt ⟨es, e, hl, ok, h⟩ => ?_)
  subst e
  refine sss_cons (ss_if (st_not (st_val (se_isi (T := "tuple") (se_var (i := 0) rfl ⟨"tuple", true, rfl, by decide +kernel, ?_⟩) B.isinstance B.tuple))))
  refine sss_nil ?_
  refine sss_cons ?_
  refine ss_for PassesOwn.never rfl (by intro _; rfl) ?_
  refine si_enumT (se_var (i := 0) rfl ?_) B.enumerate
  refine ⟨fun i G' mu' => ∃ x y, G' = [some (runW es), x, y, none, none] ∧ Ext mu mu', ⟨none, none, rfl, Ext.refl⟩, fun _ _ _ _ _ => trivial, fun i u G' mu' hu ⟨x, y, eG, ex⟩ => ?_, fun G' mu' ⟨x, y, eG, ex⟩ => ?_⟩
  · subst eG
    rw [enumW_get, List.getElem?_map] at hu
    cases ht : es[i]? with
    | none => rw [ht] at hu; cases hu
    | some ev =>
    rw [ht] at hu
    cases hu
    refine sg_tup (sgs_cons (sg_name (i := 1) (sgs_cons (sg_name (i := 2) (sgs_nil ?_) sc_show_run.nd)) sc_show_run.nd))
    refine sss_cons (ss_if (st_not (st_val (se_callD D_event (hr.mono (by decide)) (sa_cons (se_var (i := 2) rfl (sa_nil ?_)))))))
    refine ⟨⟨ev, rfl, ok ev (List.mem_of_getElem? ht)⟩, fun mu2 e2 => ?_⟩
    exact sss_nil (sss_nil ⟨_, _, rfl, ex.trans e2⟩)
  · subst eG
    refine sss_cons (ss_ret (se_callD D_text (hr.mono (by decide)) (sa_cons ?_)))
    refine se_lcN (own := [("word", 3), ("which", 4)]) (.tp [.nm 3, .nm 4]) rfl sc_show_run.nd (blkOk_by (N := ["run", "index", "event", "word", "which"]) (sc := defScope s_show_run) (by decide +kernel)) rfl (fun _ _ _ _ _ => (pg_tup rfl (pgs_cons (pg_name (i := 3) sc_show_run.nd rfl (Or.inl rfl)) (pgs_cons (pg_name (i := 4) sc_show_run.nd rfl (Or.inl rfl)) pgs_nil)))) (by intro _; rfl) ?_
    refine si_tup (se_var (i := 0) rfl ?_)
    refine lc_rows gE (fun _ _ => trivial) (by rw [List.length_map]; exact Nat.le_trans hl (by decide)) ?_ InBlk.mono ?_
    · intro u mu2 hu he
      obtain ⟨ev, hev, rfl⟩ := List.mem_map.mp hu
      have oe := ok ev hev
      cases ev with
      | beg n =>
        refine ⟨_, rfl, fun s' H C cl fp => ?_⟩
        refine se_lst (sa_cons (se_var (i := 3) rfl (sa_cons (se_strS (se_var (i := 4) rfl ⟨n, rfl, sa_nil ⟨by show 2 ≤ sizeLine; decide, fun y ny => ?_⟩⟩) B.str))))
        exact ⟨Ext.refl.set ny, y, rfl, free_of he ny, setM_same⟩
      | num z i =>
        refine ⟨_, rfl, fun s' H C cl fp => ?_⟩
        refine se_lst (sa_cons (se_var (i := 3) rfl (sa_cons (se_strI (se_var (i := 4) rfl ⟨_, rfl, num_log oe.2, sa_nil ⟨by show 2 ≤ sizeLine; decide, fun y ny => ?_⟩⟩) B.str))))
        exact ⟨Ext.refl.set ny, y, rfl, free_of he ny, setM_same⟩
    · intro Dd mu2 rs hD hD' he er hrs
      obtain ⟨r2, q1, q2, q3⟩ := rows_of (k := evL) (Q := fun a => mu' a = none) gE_ev er hrs
      rw [q1]
      have l2 : r2.length = es.length := by have := congrArg List.length q2; rwa [List.length_map, List.length_map] at this
      refine sa_nil ⟨Dd, r2, rfl, setM_same, fun r hr' => ⟨?_, ?_⟩, by omega, fun mu3 e3 => ?_⟩
      · rw [setM_ne fun z => (by have := (q3 r hr').1; rw [z, hD'] at this; cases this)]
        exact (q3 r hr').1
      · have : r.2 ∈ es.map evL := by rw [← q2]; exact List.mem_map.mpr ⟨r, hr', rfl⟩
        obtain ⟨x, hx, e⟩ := List.mem_map.mp this
        rw [← e]
        exact ev_ln (ok x hx)
      · rw [q2]
        exact h _ ((ex.trans (he.set (free_of he hD'))).trans e3)
end
end K1
set_option Elab.async false
set_option linter.all false
set_option maxRecDepth 100000
/-! Reading. -/
namespace K1
open PySem L2 Dv
theorem _root_.Dv.DefVal.imp {P : Program} {w : World} {K : PySem.W.Frag} {mg : Str → Option Value} {base : Heap} {f : Addr} {k k' : Nat} {S S' : SpW} (D : DefVal P w K mg base f k S) (hk : k ≤ k') (h : ∀ ws mu Q, S' ws mu Q → S ws mu Q) : DefVal P w K mg base f k' S' := by
  obtain ⟨fd, ps, F, h1, h2⟩ := D.ex
  exact ⟨fd, ps, (F.imp fun vs H Q E ⟨ws, mu, Pt, q, r⟩ => ⟨ws, mu, Pt, h _ _ _ q, r⟩).mono hk, h1, h2⟩
/-- a form: of the words of each of these lines what they tell -/
def S_form (fs : List (List Str × W)) : SpW := fun ws mu P => ∃ a q, q ∈ fs ∧ ws = [.m a] ∧ mu a = some (.lst (stW q.1)) ∧ ∀ mu', Ext mu mu' → P q.2 mu'
structure FormOk (fs : List (List Str × W)) : Prop where
  len : fs.length ≤ 60
  ln : ∀ q ∈ fs, LnOk q.1
  ne : ∀ q ∈ fs, ∃ x r, q.1 = x :: r ∧ 1 ≤ x.length
  cl : ∀ q ∈ fs, ∀ y ∈ q.1, Clean y
  some : ∀ q ∈ fs, isNo q.2 = false
def gSp (w : W) : List W := match w with | .str y => stW (Txt.split y " ") | _ => []
section
variable {P : Program} {w : World} {K : PySem.W.Frag} {mg : Str → Option Value} {base : Heap}
abbrev s_lines_of : Stmt := top 40
theorem sc_lines_of : FnScope ["text", "line"] ["text"] (defScope s_lines_of) := ⟨rfl, rfl, rfl, by decide +kernel, rfl, by decide +kernel, by decide +kernel⟩
def S_lines_of : SpW := fun ws mu P => ∃ z, ws = [.str z] ∧ z.length + 2 ≤ sizeLine ∧ (Txt.split z "\n").length ≤ sizeLine ∧ (∀ y ∈ Txt.split z "\n", y.length + 2 ≤ sizeLine) ∧ ∀ (D : Addr) (rs : List (Addr × List Str)) (mu' : Mu), mu' D = some (.lst (rs.map fun r => W.m r.1)) → rs.map (·.2) = (Txt.split z "\n").map (fun y => Txt.split y " ") → (∀ r ∈ rs, mu' r.1 = some (.lst (stW r.2)) ∧ r.1 ≠ D ∧ mu r.1 = none) → mu D = none → Ext mu mu' → P (.m D) mu'
theorem d_lines_of (D : Dfn K mg "lines_of" s_lines_of ["text"]) (B : Bl mg) : DefOk P w K mg base "lines_of" ["text"] 1 S_lines_of := by
  refine dfnOk D sc_lines_of (fun ws mu P ⟨z, e, _⟩ => by rw [e]; rfl) (fun f cdv A outer s H E hr ws mu Pt ⟨z, e, hz, hn, hy, h⟩ => ?_)
  subst e
  refine sss_cons (ss_if (st_not (st_val (se_isi (T := "str") (se_var (i := 0) rfl ⟨"str", true, rfl, by decide +kernel, ?_⟩) B.isinstance B.str))))
  refine sss_nil ?_
  refine sss_cons (ss_ret ?_)
  refine se_lcN (own := [("line", 1)]) (.nm 1) rfl sc_lines_of.nd (blkOk_by (N := ["text", "line"]) (sc := defScope s_lines_of) (by decide +kernel)) rfl (fun _ _ _ _ _ => (pg_name (i := 1) sc_lines_of.nd rfl (Or.inl rfl))) (by intro _; rfl) ?_
  refine si_lst (se_split (se_var (i := 0) rfl ⟨_, rfl, se_str ⟨_, rfl, by decide +kernel, hz, fun l nl => ⟨_, setM_same, ?_⟩⟩⟩))
  have e1 : Ext mu (setM mu l (.lst ((Txt.split z "\n").map W.str))) := Ext.refl.set nl
  have hl : (setM mu l (.lst ((Txt.split z "\n").map W.str))) l = _ := setM_same
  generalize setM mu l (.lst ((Txt.split z "\n").map W.str)) = mu1 at e1 hl ⊢
  refine lc_rows gSp (fun mu' e => e _ _ hl) (by rw [List.length_map]; exact hn) ?_ InBlk.mono ?_
  · intro u mu' hu he
    obtain ⟨y, hy', rfl⟩ := List.mem_map.mp hu
    refine ⟨_, rfl, fun s' H C cl fp => ?_⟩
    refine se_split (se_var (i := 1) rfl ⟨_, rfl, se_str ⟨_, rfl, by decide +kernel, hy y hy', fun b nb => ?_⟩⟩)
    exact ⟨Ext.refl.set nb, b, rfl, free_of he nb, setM_same⟩
  · intro Dd mu' rs hD hD' he er hrs
    obtain ⟨r2, q1, q2, q3⟩ := rows_of (g := gSp) (f := W.str) (k := fun y => Txt.split y " ") (Q := fun a => mu1 a = none) (fun _ => rfl) er hrs
    rw [q1]
    refine h Dd r2 _ setM_same q2 (fun r hr' => ?_) (free_of e1 hD) ((e1.trans he).set (free_of (e1.trans he) hD'))
    have ne : r.1 ≠ Dd := fun q => by have := (q3 r hr').1; rw [q, hD'] at this; cases this
    exact ⟨by rw [setM_ne ne]; exact (q3 r hr').1, ne, free_of e1 (q3 r hr').2⟩
abbrev s_parts_of : Stmt := top 39
theorem sc_parts_of : FnScope ["text", "form", "lines", "parts", "number", "words", "part"] ["text", "form"] (defScope s_parts_of) := ⟨rfl, rfl, rfl, by decide +kernel, rfl, by decide +kernel, by decide +kernel⟩
def S_parts (P : Program) (w : World) (K : PySem.W.Frag) (mg : Str → Option Value) (base : Heap) : SpW := fun ws mu Q => ∃ f fs, ws = [.str (pageOf (fs.map (·.1))), .m f] ∧ DefVal P w K mg base f 2 (S_form fs) ∧ FormOk fs ∧ ∀ mu', Ext mu mu' → Q (.tup (fs.map (·.2))) mu'
theorem d_parts_of (D : Dfn K mg "parts_of" s_parts_of ["text", "form"]) (B : Bl mg) (D_lines : DefOk P w K mg base "lines_of" ["text"] 1 S_lines_of) : DefOk P w K mg base "parts_of" ["text", "form"] 3 (S_parts P w K mg base) := by
  refine dfnOk D sc_parts_of (fun ws mu P ⟨_, _, e, _⟩ => by rw [e]; rfl) (fun f cdv A outer s H E hr ws mu Pt ⟨ff, fs, e, Df, ok, h⟩ => ?_)
  subst e
  -- the lines
  have main : ∀ (q : Addr) (rs : List (Addr × List Str)) (mu1 : Mu), mu1 q = some (.lst (rs.map fun r => W.m r.1)) → rs.map (·.2) = fs.map (·.1) → (∀ r ∈ rs, mu1 r.1 = some (.lst (stW r.2))) → Ext mu mu1 →
      SSs (cxOf CX0 P w K mg base ["text", "form", "lines", "parts", "number", "words", "part"] "parts_of" (defScope s_parts_of) f cdv A outer s H E).nox ((defBody s_parts_of).drop 1) [some (.str (pageOf (fs.map (·.1)))), some (.m ff), some (.m q), none, none, none, none] mu1 { nx := fun _ mu' => Pt .non mu', rt := Pt } := by
    intro q rs mu1 hq ers hrs ex
    have lrs : rs.length = fs.length := by have := congrArg List.length ers; rwa [List.length_map, List.length_map] at this
    refine sss_cons (ss_asg (se_lst (sa_nil ⟨by decide, fun pa npa => ?_⟩)))
    refine sg_name (i := 3) ?_ sc_parts_of.nd
    have qpa : q ≠ pa := fun z => by rw [← z, hq] at npa; cases npa
    refine sss_cons ?_
    refine ss_for PassesOwn.never rfl (by intro _; rfl) ?_
    refine si_enumL (se_var (i := 2) rfl ⟨_, by rw [setM_ne qpa]; exact hq, ?_⟩) B.enumerate
    refine ⟨fun i G' mu' => ∃ x y z, G' = [some (.str (pageOf (fs.map (·.1)))), some (.m ff), some (.m q), some (.m pa), x, y, z] ∧ mu' pa = some (.lst ((fs.take i).map (·.2))) ∧ ∀ b c, b ≠ pa → mu1 b = some c → mu' b = some c, ⟨none, none, none, rfl, setM_same, fun b c hb hc => by rw [setM_ne hb]; exact hc⟩,
      fun i G' mu' _ ⟨_, _, _, _, _, kp⟩ => kp _ _ qpa hq, fun i u G' mu' hu ⟨x, y, z, eG, hpa, kp⟩ => ?_, fun G' mu' ⟨x, y, z, eG, hpa, kp⟩ => ?_⟩
    · subst eG
      rw [enumW_get, List.getElem?_map] at hu
      cases ht : rs[i]? with
      | none => rw [ht] at hu; cases hu
      | some r =>
      rw [ht] at hu
      cases hu
      have ef : (fs.map (·.1))[i]? = some r.2 := by rw [← ers, List.getElem?_map, ht]; rfl
      rw [List.getElem?_map] at ef
      cases hf : fs[i]? with
      | none => rw [hf] at ef; cases ef
      | some fq =>
      rw [hf] at ef
      have ef : fq.1 = r.2 := by simpa using ef
      have rm := List.mem_of_getElem? ht
      have fm := List.mem_of_getElem? hf
      have hi : i < fs.length := (List.getElem?_eq_some_iff.mp hf).1
      have rpa : r.1 ≠ pa := fun z => by have := hrs r rm; rw [z, npa] at this; cases this
      have hrow := kp _ _ rpa (hrs r rm)
      rw [← ef] at hrow
      refine sg_tup (sgs_cons (sg_name (i := 4) (sgs_cons (sg_name (i := 5) (sgs_nil ?_) sc_parts_of.nd)) sc_parts_of.nd))
      refine sss_cons (ss_asg (se_callV Df (hr.mono (by decide)) (i := 1) rfl (sa_cons (se_var (i := 5) rfl (sa_nil ?_)))))
      refine ⟨r.1, fq, fm, rfl, hrow, fun mu3 e3 => ?_⟩
      refine sg_name (i := 6) ?_ sc_parts_of.nd
      refine sss_cons (ss_if (st_cmp op_isN isN_w (nomark _) (se_var (i := 6) rfl (se_non ⟨rfl, fun b hb => ?_⟩))))
      rw [hb, ok.some fq fm]
      refine sss_nil ?_
      have hpa3 := e3 _ _ hpa
      refine sss_cons (ss_expr (se_append (se_var (i := 3) rfl ?_)))
      refine ⟨⟨_, hpa3⟩, sa_one (se_var (i := 6) rfl ⟨_, hpa3, ?_, ?_⟩)⟩
      · rw [List.length_map, List.length_take]
        have := ok.len
        exact Nat.lt_of_le_of_lt (by omega : min i fs.length ≤ 60) (by decide)
      · refine sss_nil ⟨_, _, _, rfl, ?_, fun b c hb hc => by rw [setM_ne hb]; exact e3 _ _ (kp b c hb hc)⟩
        rw [setM_same, List.take_add_one, hf, List.map_append]
        rfl
    · subst eG
      rw [enumW_len, List.length_map, lrs, List.take_length] at hpa
      refine sss_cons (ss_ret (se_tupleC (se_var (i := 3) rfl ⟨_, hpa, ?_⟩) B.tuple))
      exact h _ fun b c hb => kp b c (fun z => by have := ex _ _ hb; rw [z, npa] at this; cases this) (ex _ _ hb)
  refine sss_cons (ss_asg (se_if (st_cmp op_eq eqT_w (nomark _) (se_var (i := 0) rfl (se_str ⟨_, _, rfl, rfl, fun b hb => ?_⟩)))))
  cases fs with
  | nil =>
    refine if2_t (by rw [hb]; decide +kernel) ?_
    refine se_lst (sa_nil ⟨by decide, fun q nq => ?_⟩)
    refine sg_name (i := 2) ?_ sc_parts_of.nd
    exact main q [] _ setM_same rfl (fun r hr' => by cases hr') (Ext.refl.set nq)
  | cons f0 fr =>
    obtain ⟨x, r, ex, hx⟩ := ok.ne f0 (by simp)
    have ne : pageOf ((f0 :: fr).map (·.1)) ≠ "" := show pageOf (f0.1 :: fr.map fun q => q.1) ≠ "" from page_ne (l := f0.1) (ls := fr.map fun q => q.1) ex hx
    refine if2_f (by rw [hb]; exact decide_eq_false ne) ?_
    obtain ⟨c1, c2⟩ := page_cut (ls := (f0 :: fr).map (·.1)) (by simp) (fun l hl => by
      obtain ⟨q, hq, rfl⟩ := List.mem_map.mp hl
      refine ⟨?_, ok.cl q hq⟩
      obtain ⟨x, r, e, _⟩ := ok.ne q hq
      rw [e]
      simp)
    obtain ⟨p1, p2⟩ := page_len (ls := (f0 :: fr).map (·.1)) (by rw [List.length_map]; exact ok.len) (fun l hl => by
      obtain ⟨q, hq, rfl⟩ := List.mem_map.mp hl
      exact ok.ln q hq)
    refine se_callD D_lines (hr.mono (by decide)) (sa_cons (se_var (i := 0) rfl (sa_nil ?_)))
    refine ⟨_, rfl, Nat.le_trans (Nat.add_le_add_right p2 2) (by decide), ?_, fun y hy => ?_, fun q rs mu1 hq ers hrs hqf ex1 => ?_⟩
    · rw [c1, List.length_map, List.length_map]
      exact Nat.le_trans ok.len (by decide)
    · rw [c1] at hy
      exact Nat.le_trans (Nat.add_le_add_right (p1 y hy) 2) (by decide)
    · rw [c1, c2] at ers
      refine sg_name (i := 2) ?_ sc_parts_of.nd
      exact main q rs mu1 hq ers (fun r hr' => (hrs r hr').1) ex1
abbrev s_read_run : Stmt := top 37
theorem sc_read_run : FnScope ["text"] ["text"] (defScope s_read_run) := ⟨rfl, rfl, rfl, by decide +kernel, rfl, by decide +kernel, by decide +kernel⟩
theorem ev_first (e : Ev) (ok : EvOk e) : ∃ x r, evL e = x :: r ∧ 1 ≤ x.length := by
  cases e with
  | beg n => exact ⟨"begin", [n], rfl, by decide +kernel⟩
  | num w i => exact ⟨w, [numS i], rfl, (numbered_nm w ok.1).1⟩
theorem ev_clean (e : Ev) (ok : EvOk e) : ∀ y ∈ evL e, Clean y := by
  cases e with
  | beg n =>
    intro y hy
    rcases List.mem_cons.mp hy with rfl | hy
    · exact nm_clean begin_nm
    · rw [List.mem_singleton.mp hy]; exact nm_clean ok
  | num w i =>
    intro y hy
    rcases List.mem_cons.mp hy with rfl | hy
    · exact nm_clean (numbered_nm _ ok.1)
    · rw [List.mem_singleton.mp hy]; exact num_clean
theorem ev_forms {es : List Ev} (hl : es.length ≤ 60) (ok : ∀ e ∈ es, EvOk e) : FormOk (es.map fun e => (evL e, evW e)) where
  len := by rw [List.length_map]; exact hl
  ln := fun q hq => by obtain ⟨e, he, rfl⟩ := List.mem_map.mp hq; exact ev_ln (ok e he)
  ne := fun q hq => by obtain ⟨e, he, rfl⟩ := List.mem_map.mp hq; exact ev_first e (ok e he)
  cl := fun q hq => by obtain ⟨e, he, rfl⟩ := List.mem_map.mp hq; exact ev_clean e (ok e he)
  some := fun q hq => by obtain ⟨e, he, rfl⟩ := List.mem_map.mp hq; cases e <;> rfl
def S_read_run : SpW := fun ws mu P => ∃ es, ws = [.str (pageOf (es.map evL))] ∧ es.length ≤ 60 ∧ (∀ e ∈ es, EvOk e) ∧ ∀ mu', Ext mu mu' → P (runW es) mu'
theorem d_read_run (D : Dfn K mg "read_run" s_read_run ["text"]) (D_parts : DefOk P w K mg base "parts_of" ["text", "form"] 3 (S_parts P w K mg base)) (D_in : DefOk P w K mg base "event_in" ["words"] 2 S_event_in) : DefOk P w K mg base "read_run" ["text"] 7 S_read_run ∧ DefKw P w K mg base "read_run" "text" 7 S_read_run := by
  refine dfnBoth D sc_read_run (fun _ _ _ _ _ _ _ _ => .of_eq rfl) (fun ws mu P ⟨i, e, _⟩ => by rw [e]; rfl) (fun f cdv A outer s H E hr ws mu Pt ⟨es, e, hl, ok, h⟩ => ?_)
  subst e
  refine sss_cons (ss_ret (se_callD D_parts (hr.mono (by decide)) (sa_cons (se_var (i := 0) rfl (sa_cons (se_fun D_in fun ff Df => sa_nil ?_))))))
  refine ⟨ff, es.map fun e => (evL e, evW e), by rw [List.map_map]; rfl, Df.imp (Nat.le_refl _) fun ws mu Q ⟨a, q, hq, e1, e2, e3⟩ => ?_, ev_forms hl ok, fun mu1 e1 => ?_⟩
  · obtain ⟨ev, he, rfl⟩ := List.mem_map.mp hq
    exact ⟨a, ev, e1, e2, ok ev he, e3⟩
  · rw [List.map_map]
    exact h _ e1
abbrev s_read_history : Stmt := top 38
theorem sc_read_history : FnScope ["text", "history"] ["text"] (defScope s_read_history) := ⟨rfl, rfl, rfl, by decide +kernel, rfl, by decide +kernel, by decide +kernel⟩
theorem rec_clean {r : Rec} (ok : RecOk r) : ∀ y ∈ recL r, Clean y := by
  obtain ⟨rb, re, rk, rs⟩ := r
  intro z hz
  unfold recL at hz
  simp only [List.mem_cons, List.not_mem_nil, or_false] at hz
  cases re with
  | none =>
    rcases hz with rfl | rfl | rfl | rfl | rfl
    · exact num_clean
    · exact dash_clean
    · exact nm_clean ok.nm
    · exact nm_clean (sorts_nm _ ok.so)
    · exact dash_clean
  | some q =>
    obtain ⟨q1, q2, ys, hys, hq⟩ := ok.en q rfl
    rcases hz with rfl | rfl | rfl | rfl | rfl
    · exact num_clean
    · exact num_clean
    · exact nm_clean ok.nm
    · exact nm_clean (sorts_nm _ ok.so)
    · exact nm_clean ((answers_nm hys).2 q.2 hq)
theorem rec_forms {hi : List Rec} (hl : hi.length ≤ 60) (ok : ∀ r ∈ hi, RecOk r) : FormOk (hi.map fun r => (recL r, recW r)) where
  len := by rw [List.length_map]; exact hl
  ln := fun q hq => by obtain ⟨r, hr, rfl⟩ := List.mem_map.mp hq; exact rec_ln (ok r hr)
  ne := fun q hq => by obtain ⟨r, hr, rfl⟩ := List.mem_map.mp hq; exact ⟨_, _, rfl, (numS_len (ok r hr).b2).1⟩
  cl := fun q hq => by obtain ⟨r, hr, rfl⟩ := List.mem_map.mp hq; exact rec_clean (ok r hr)
  some := fun q hq => by obtain ⟨r, hr, rfl⟩ := List.mem_map.mp hq; rfl
def S_read_history : SpW := fun ws mu P => ∃ h, ws = [.str (pageOf (h.map recL))] ∧ HistOk h ∧ ∀ mu', Ext mu mu' → P (histW h) mu'
theorem d_read_history (D : Dfn K mg "read_history" s_read_history ["text"]) (D_parts : DefOk P w K mg base "parts_of" ["text", "form"] 3 (S_parts P w K mg base)) (D_in : DefOk P w K mg base "record_in" ["words"] 2 S_record_in) (D_check : DefOk P w K mg base "check_history" ["value"] 5 S_check_history) : DefOk P w K mg base "read_history" ["text"] 7 S_read_history ∧ DefKw P w K mg base "read_history" "text" 7 S_read_history := by
  refine dfnBoth D sc_read_history (fun _ _ _ _ _ _ _ _ => .of_eq rfl) (fun ws mu P ⟨i, e, _⟩ => by rw [e]; rfl) (fun f cdv A outer s H E hr ws mu Pt ⟨hi, e, ok, h⟩ => ?_)
  subst e
  refine sss_cons (ss_asg (se_callD D_parts (hr.mono (by decide)) (sa_cons (se_var (i := 0) rfl (sa_cons (se_fun D_in fun ff Df => sa_nil ?_))))))
  refine ⟨ff, hi.map fun r => (recL r, recW r), by rw [List.map_map]; rfl, Df.imp (Nat.le_refl _) fun ws mu Q ⟨a, q, hq, e1, e2, e3⟩ => ?_, rec_forms (by have := ok.len; omega) ok.each, fun mu1 e1 => ?_⟩
  · obtain ⟨r, hr', rfl⟩ := List.mem_map.mp hq
    exact ⟨a, r, e1, e2, ok.each r hr', e3⟩
  · rw [List.map_map]
    refine sg_name (i := 1) ?_ sc_read_history.nd
    refine sss_cons (ss_expr (se_callD D_check (hr.mono (by decide)) (sa_cons (se_var (i := 1) rfl (sa_nil ?_)))))
    refine ⟨hi, rfl, ok, fun mu2 e2 => ?_⟩
    exact sss_cons (ss_ret (se_var (i := 1) rfl (h _ (e1.trans e2))))
end
end K1
set_option Elab.async false
set_option linter.all false
set_option maxRecDepth 100000
/-! Data of names and whole numbers: shown, compared. -/
namespace K1
open PySem L2 Dv
/-- names, whole numbers, None, and tuples of such, n deep -/
def Nm4 : Nat → W → Prop
  | _, .str x => NmOk x
  | _, .int i => 0 ≤ i ∧ i < 10 ^ 18
  | _, .non => True
  | n + 1, .tup ws => ∀ w ∈ ws, Nm4 n w
  | _, _ => False
mutual
def sz : W → Nat
  | .tup ws => szs ws + 1
  | _ => 1
def szs : List W → Nat
  | [] => 0
  | w :: ws => sz w + szs ws
end
theorem szs_map {α : Type} (f : α → W) (k : Nat) : ∀ {xs : List α}, (∀ x ∈ xs, sz (f x) ≤ k) → szs (xs.map f) ≤ xs.length * k
  | [], _ => by simp [szs]
  | x :: xs, h => by
    have h1 := h x (by simp)
    have h2 := szs_map f k (xs := xs) fun y hy => h y (by simp [hy])
    simp only [List.map_cons, szs, List.length_cons, Nat.succ_mul]
    omega
structure Shows (w : W) (n : Nat) : Prop where
  pl : plW w = true
  lay : (dat w).canLay0 = true
  dep : (dat w).depth ≤ n
  shw : (dat w).showable = true
  noD : (dat w).hasDict = false
  len : (dat w).shown.length + 2 ≤ 92 * sz w
theorem shows_all {n : Nat} : ∀ {ws : List W}, (∀ w ∈ ws, Shows w n) → plsW ws = true ∧ PyData.canLayAll0 (dats ws) = true ∧ PyData.depthAll (dats ws) ≤ n ∧ PyData.showableAll (dats ws) = true ∧ PyData.hasDictAll (dats ws) = false ∧ piled (PyData.shownAll (dats ws)) ≤ 92 * szs ws
  | [], _ => by simp [plsW, dats, PyData.canLayAll0, PyData.depthAll, PyData.showableAll, PyData.hasDictAll, PyData.shownAll, szs, piled]
  | w :: ws, h => by
    have a := h w (by simp)
    obtain ⟨b1, b2, b3, b4, b5, b6⟩ := shows_all (ws := ws) fun v hv => h v (by simp [hv])
    refine ⟨by simp [plsW, a.pl, b1], by simp [dats, PyData.canLayAll0, a.lay, b2], ?_, by simp [dats, PyData.showableAll, a.shw, b4], by simp [dats, PyData.hasDictAll, a.noD, b5], ?_⟩
    · simp only [dats, PyData.depthAll]
      have := a.dep
      omega
    · simp only [dats, PyData.shownAll, piled_cons, szs]
      have := a.len
      omega
theorem tupleText_le (ts : List Str) : (tupleText ts).length ≤ piled ts + 3 := by
  unfold tupleText
  rw [strLen_append, strLen_append]
  have e1 : (("(" : String) : Str).length = 1 := rfl
  have e3 : (((if ts.length == 1 then ",)" else ")" : String) : Str)).length ≤ 2 := by split <;> decide
  by_cases h : ts = []
  · subst h
    have : (Str.join ", " ([] : List Str)).length = 0 := rfl
    omega
  · have := join_length_add ts h
    omega
theorem shown_int {i : Nat} (h : i < 10 ^ 18) : (PyData.int ((i : Nat) : Int)).shown.length ≤ 18 := by
  have e : (PyData.int ((i : Nat) : Int)).shown = numS i := by
    first
      | rfl
      | simp [PyData.shown, numS]
  rw [e]
  exact (numS_len h).2
theorem shows_leaf {w : W} {n : Nat} (h : w = .non ∨ (∃ i : Nat, w = .int (i : Nat) ∧ i < 10 ^ 18) ∨ ∃ x, w = .str x ∧ NmOk x) : Shows w n := by
  rcases h with rfl | ⟨i, rfl, hi⟩ | ⟨x, rfl, h⟩
  · exact ⟨by simp [plW], by simp [dat, PyData.canLay0], by simp [dat, PyData.depth], by simp [dat, PyData.showable], by simp [dat, PyData.hasDict], by decide +kernel⟩
  · have := shown_int hi
    have lg := num_log hi
    rw [Int.natAbs_natCast] at lg
    refine ⟨by simp [plW], by simp [dat, PyData.canLay0], by simp [dat, PyData.depth], by simpa [dat, PyData.showable] using lg, by simp [dat, PyData.hasDict], ?_⟩
    show (PyData.int ((i : Nat) : Int)).shown.length + 2 ≤ 92 * 1
    omega
  · have h1 := StrLaws.reprText_len x fun c hc => Nat.lt_of_le_of_lt (h.2.2 c hc).2 (by decide)
    have h2 := h.2.1
    refine ⟨by simp [plW], by simpa [dat] using nm_ok h, by simp [dat, PyData.depth], by simp [dat, PyData.showable], by simp [dat, PyData.hasDict], ?_⟩
    show (reprText x).length + 2 ≤ 92 * 1
    omega
theorem shows_of : ∀ (n : Nat) (w : W), Nm4 n w → Shows w n
  | n, .str x, h => shows_leaf (.inr (.inr ⟨x, rfl, by cases n <;> exact h⟩))
  | n, .int i, h => by
    have h : 0 ≤ i ∧ i < 10 ^ 18 := by cases n <;> exact h
    obtain ⟨k, rfl⟩ := Int.eq_ofNat_of_zero_le h.1
    exact shows_leaf (.inr (.inl ⟨k, rfl, by omega⟩))
  | n, .non, h => shows_leaf (.inl rfl)
  | 0, .tup ws, h => h.elim
  | n + 1, .tup ws, h => by
    obtain ⟨b1, b2, b3, b4, b5, b6⟩ := shows_all (n := n) (ws := ws) fun w hw => shows_of n w (h w hw)
    refine ⟨by simpa [plW] using b1, by simpa [dat, PyData.canLay0] using b2, ?_, by simpa [dat, PyData.showable] using b4, by simpa [dat, PyData.hasDict] using b5, ?_⟩
    · simp only [dat, PyData.depth]
      omega
    · show (tupleText (PyData.shownAll (dats ws))).length + 2 ≤ 92 * (szs ws + 1)
      have := tupleText_le (PyData.shownAll (dats ws))
      omega
  | 0, .bl _, h => h.elim
  | 0, .m _, h => h.elim
  | _ + 1, .bl _, h => h.elim
  | _ + 1, .m _, h => h.elim
theorem Shows.shaped {w : W} {n : Nat} (h : Shows w n) (hn : n ≤ 60) : SeqAt.shaped (dat w) = true := by
  unfold SeqAt.shaped
  rw [h.lay, decide_eq_true (Nat.le_trans h.dep (Nat.le_trans hn (by decide)))]
  rfl
theorem asD_pl {mu : Mu} {w : W} (h : plW w = true) : asD mu w = some (dat w) := by
  cases w with
  | m a => simp [plW] at h
  | tup ws => exact if_pos (e := none) h
  | non => exact if_pos (e := none) h
  | bl b => exact if_pos (e := none) h
  | int i => exact if_pos (e := none) h
  | str x => exact if_pos (e := none) h
theorem Shows.repr {w : W} {n : Nat} {mu : Mu} {P : PW1} (h : Shows w n) (hr : isRef w) (hn : n ≤ 60) (hz : sz w ≤ 100000) (k : P (.str (dat w).shown) mu) : reprW [w] mu P := by
  refine ⟨w, dat w, rfl, hr, asD_pl h.pl, h.shw, h.noD, Nat.le_trans h.dep hn, ?_, k⟩
  have := h.len
  show _ ≤ 2 ^ 24
  omega
def eqD (w u : W) : Bool := PyData.eqv (dat w) (dat u)
theorem eqD_w {w u : W} {n : Nat} {mu : Mu} {P : PW1} (h1 : Nm4 n w) (h2 : Nm4 n u) (hn : n ≤ 60) (k : P (.bl (eqD w u)) mu) : eqW w u mu P := by
  have a := shows_of n w h1
  have b := shows_of n u h2
  exact ⟨dat w, dat u, asD_pl a.pl, asD_pl b.pl, a.shaped hn, b.shaped hn, k⟩
mutual
theorem eqv_refl : ∀ d : PyData, d.canLay0 = true → PyData.eqv d d = true
  | .none, _ => by simp [PyData.eqv]
  | .bool b, _ => by simp [PyData.eqv]
  | .int i, _ => by simp [PyData.eqv]
  | .str x, _ => by simp [PyData.eqv]
  | .list xs, h => by
    simp only [PyData.eqv]
    exact eqvAll_refl xs (by simpa [PyData.canLay0] using h)
  | .tuple xs, h => by
    simp only [PyData.eqv]
    exact eqvAll_refl xs (by simpa [PyData.canLay0] using h)
  | .dict _, h => by simp [PyData.canLay0] at h
theorem eqvAll_refl : ∀ ds : List PyData, PyData.canLayAll0 ds = true → PyData.eqvAll ds ds = true
  | [], _ => by simp [PyData.eqvAll]
  | d :: ds, h => by
    simp only [PyData.canLayAll0, Bool.and_eq_true] at h
    simp only [PyData.eqvAll, eqv_refl d h.1, eqvAll_refl ds h.2, Bool.and_self]
end
theorem ev_nm {e : Ev} (ok : EvOk e) : Nm4 1 (evW e) := by
  cases e with
  | beg n =>
    intro w hw
    simp only [List.mem_cons, List.not_mem_nil, or_false] at hw
    rcases hw with rfl | rfl
    · exact begin_nm
    · exact ok
  | num z i =>
    intro w hw
    simp only [List.mem_cons, List.not_mem_nil, or_false] at hw
    rcases hw with rfl | rfl
    · exact numbered_nm z ok.1
    · exact ⟨by omega, by have := ok.2; omega⟩
theorem run_nm {es : List Ev} (ok : ∀ e ∈ es, EvOk e) : Nm4 2 (runW es) := fun w hw => by
  obtain ⟨e, he, rfl⟩ := List.mem_map.mp hw
  exact ev_nm (ok e he)
theorem run_sz (es : List Ev) : sz (runW es) ≤ es.length * 3 + 1 := by
  show szs (es.map evW) + 1 ≤ _
  have := szs_map evW 3 (xs := es) fun e _ => by cases e <;> exact Nat.le_refl 3
  omega
theorem rec_nm {r : Rec} (ok : RecOk r) : Nm4 1 (recW r) := by
  obtain ⟨rb, re, rk, rs⟩ := r
  intro w hw
  have hb : 0 ≤ ((rb : Nat) : Int) ∧ ((rb : Nat) : Int) < 10 ^ 18 := ⟨by omega, by have := ok.b2; dsimp only at this; omega⟩
  cases re with
  | none =>
    simp only [List.mem_cons, List.not_mem_nil, or_false] at hw
    rcases hw with rfl | rfl | rfl | rfl | rfl
    · exact hb
    · trivial
    · exact ok.nm
    · exact sorts_nm rs ok.so
    · trivial
  | some q =>
    obtain ⟨q1, q2, ys, hys, hq⟩ := ok.en q rfl
    simp only [List.mem_cons, List.not_mem_nil, or_false] at hw
    rcases hw with rfl | rfl | rfl | rfl | rfl
    · exact hb
    · exact ⟨by omega, by omega⟩
    · exact ok.nm
    · exact sorts_nm rs ok.so
    · exact (answers_nm hys).2 q.2 hq
theorem hist_nm {h : List Rec} (ok : ∀ r ∈ h, RecOk r) : Nm4 2 (histW h) := fun w hw => by
  obtain ⟨r, hr, rfl⟩ := List.mem_map.mp hw
  exact rec_nm (ok r hr)
theorem hist_sz (h : List Rec) : sz (histW h) ≤ h.length * 6 + 1 := by
  show szs (h.map recW) + 1 ≤ _
  have := szs_map recW 6 (xs := h) fun r _ => by
    obtain ⟨rb, re, rk, rs⟩ := r
    cases re <;> exact Nat.le_refl 6
  omega
end K1
set_option Elab.async false
set_option linter.all false
set_option maxRecDepth 100000
/-! The law's runs, answers, lines. -/
namespace K1
open PySem L2 Dv
/-- what goes on beside the jar stays -/
theorem but_cell {p a : Addr} {mu mu' : Mu} {c : C} (e : ExtBut p mu mu') (h : a ≠ p) (ha : mu a = some c) : mu' a = some c := e a c h ha
theorem stW_len (ns : List Str) : (stW ns).length = ns.length := by unfold stW; rw [List.length_map]
def partS : W → Str
  | .int i => Str.ofString (toString i)
  | .non => "-"
  | .str z => z
  | _ => ""
def PartOk (w : W) : Prop := w = .non ∨ (∃ i : Nat, w = .int (i : Nat) ∧ i < 10 ^ 18) ∨ ∃ z, w = .str z
theorem parts_ev (e : Ev) : ∃ ps, evW e = .tup ps ∧ ps.map partS = evL e := by cases e <;> exact ⟨_, rfl, rfl⟩
theorem parts_rec (r : Rec) : ∃ ps, recW r = .tup ps ∧ ps.map partS = recL r := by
  obtain ⟨rb, re, rk, rs⟩ := r
  cases re <;> exact ⟨_, rfl, rfl⟩
theorem ok_leaf {n : Nat} {w : W} (h : Nm4 0 w) : PartOk w := by
  cases w with
  | str x => exact .inr (.inr ⟨x, rfl⟩)
  | int i =>
    have h : 0 ≤ i ∧ i < 10 ^ 18 := h
    obtain ⟨k, rfl⟩ := Int.eq_ofNat_of_zero_le h.1
    exact .inr (.inl ⟨k, rfl, by omega⟩)
  | non => exact .inl rfl
  | bl b => exact h.elim
  | m a => exact h.elim
  | tup ws => exact h.elim
section
variable {P : Program} {w : World} {K : PySem.W.Frag} {mg : Str → Option Value} {base : Heap}
abbrev s_Levents : Stmt := top 46
theorem sc_Levents : FnScope ["_law_jar_here", "_law_names_here", "_law_found", "_law_turn", "_law_word", "_law_number"] ["_law_jar_here", "_law_names_here"] (defScope s_Levents) := ⟨rfl, rfl, rfl, by decide +kernel, rfl, by decide +kernel, by decide +kernel⟩
def NsOk (mu : Mu) (N : Addr) (p : Addr) (ns : List Str) : Prop := mu N = some (.lst (stW ns)) ∧ N ≠ p ∧ 1 ≤ ns.length ∧ ns.length ≤ 26 ∧ ∀ n ∈ ns, NmOk n
def S_events : SpW := fun ws mu P => ∃ p N ns c, ws = [.m p, .m N] ∧ NsOk mu N p ns ∧ JarOk mu p c ∧ c + 200 < 10000 ∧ ∀ es mu', es.length ≤ 29 → (∀ e ∈ es, EvOk e) → JarOk mu' p (c + 150) → ExtBut p mu mu' → P (runW es) mu'
theorem word_of {u : W} (h : u ∈ [W.str "begin", .str "step", .str "stay", .str "leave", .str "come", .str "lapse"]) : ∃ z, u = .str z ∧ (z = "begin" ∨ z ∈ numbered) := by
  simp only [List.mem_cons, List.not_mem_nil, or_false] at h
  rcases h with rfl | rfl | rfl | rfl | rfl | rfl
  · exact ⟨_, rfl, .inl rfl⟩
  all_goals exact ⟨_, rfl, .inr (by decide +kernel)⟩
set_option maxHeartbeats 2000000 in
theorem d_Levents (D : Dfn K mg "_law_events" s_Levents ["_law_jar_here", "_law_names_here"]) (B : Bl mg) (D_take : DTake P w K mg base) (D_of : DOf P w K mg base) : DefOk P w K mg base "_law_events" ["_law_jar_here", "_law_names_here"] 3 S_events := by
  refine dfnOk D sc_Levents (fun ws mu P ⟨_, _, _, _, e, _⟩ => by rw [e]; rfl) (fun f cdv A outer s H E hr ws mu Pt ⟨p, N, ns, c, e, ⟨hN, Np, n1, n26, nm⟩, jar, c1, h⟩ => ?_)
  subst e
  refine sss_cons (ss_asg (se_lst (sa_nil ⟨by decide, fun F nF => ?_⟩)))
  refine sg_name (i := 2) ?_ sc_Levents.nd
  have Fp : F ≠ p := Ne.symm (jar.ne nF)
  have E0 : ExtBut p mu (setM mu F (.lst [])) := ExtBut.refl.own nF
  have j0 : JarOk (setM mu F (.lst [])) p c := jar.set (Ne.symm Fp)
  have hF0 : (setM mu F (.lst [])) F = some (.lst []) := setM_same
  generalize setM mu F (.lst []) = mu1 at E0 j0 hF0 ⊢
  refine sss_cons ?_
  refine ss_for PassesOwn.never rfl (by intro _; rfl) ?_
  refine si_range ?_ B.range
  refine se_callD D_take (hr.mono (by decide)) (sa_cons (se_var (i := 0) rfl (sa_cons (se_int (sa_nil ?_)))))
  refine ⟨p, 30, _, rfl, by decide, by decide, j0, by omega, fun r mu2 r0 r1 j2 e2 => ⟨by omega, by omega, ?_⟩⟩
  refine ⟨fun i G' mu' => ∃ x y z, ∃ es : List Ev, G' = [some (.m p), some (.m N), some (.m F), x, y, z] ∧ mu' F = some (.lst (es.map evW)) ∧ es.length = i ∧ (∀ e ∈ es, EvOk e) ∧ JarOk mu' p (c + 1 + 4 * i) ∧ ExtBut p mu mu',
    ⟨none, none, none, [], rfl, e2 _ _ Fp hF0, rfl, by simp, j2, E0.trans e2⟩, fun _ _ _ _ _ => trivial, fun i u G' mu' hu ⟨x, y, z, es, eG, hF, el, ok, jr, ex⟩ => ?_, fun G' mu' ⟨x, y, z, es, eG, hF, el, ok, jr, ex⟩ => ?_⟩
  · subst eG
    have hi : i < r.toNat := by have := (List.getElem?_eq_some_iff.mp hu).1; simpa using this
    have i29 : i < 29 + 1 := by omega
    refine sg_name (i := 3) ?_ sc_Levents.nd
    -- the word
    refine sss_cons (ss_asg (se_callD D_of (hr.mono (by decide)) (sa_cons (se_var (i := 0) rfl (sa_cons (se_lst ?_))))))
    refine sa_cons (se_str (sa_cons (se_str (sa_cons (se_str (sa_cons (se_str (sa_cons (se_str (sa_cons (se_str (sa_nil ⟨by show 6 ≤ sizeLine; decide, fun a1 m1 => sa_nil ?_⟩))))))))))))
    have a1p : a1 ≠ p := Ne.symm (jr.ne m1)
    have a1F : a1 ≠ F := fun q => by rw [q, hF] at m1; cases m1
    refine ⟨p, _, _, _, rfl, .inr (.inl ⟨a1, rfl, a1p, setM_same⟩), by simp, by simp, jr.set (Ne.symm a1p), by omega, fun v mu3 hv j3 e3 => ?_⟩
    have ex3 : ExtBut p mu' mu3 := (ExtBut.refl.own m1).trans e3
    obtain ⟨zw, rfl, hw⟩ := word_of hv
    refine sg_name (i := 4) ?_ sc_Levents.nd
    -- the number
    refine sss_cons (ss_asg (se_callD D_of (hr.mono (by decide)) (sa_cons (se_var (i := 0) rfl (sa_cons (se_lst ?_))))))
    refine sa_cons (se_int (sa_cons (se_int (sa_cons (se_int (sa_cons (se_int (sa_cons (se_bin op_Pow Pow_w ?_)))))))))
    refine se_int (se_int ?_)
    refine ⟨⟨by decide, by decide, by decide⟩, ?_⟩
    refine sa_cons (se_callD D_take (hr.mono (by decide)) ?_)
    refine sa_cons (se_var (i := 0) rfl (sa_cons (se_bin op_Pow Pow_w ?_)))
    refine se_int (se_int ?_)
    refine ⟨⟨by decide, by decide, by decide⟩, sa_nil ?_⟩
    refine ⟨p, 10 ^ 18, _, rfl, by decide, by decide, j3, by omega, fun q mu4 q0 q1 j4 e4 => ?_⟩
    refine sa_nil ⟨by show 6 ≤ sizeLine; decide, fun a2 m2 => sa_nil ?_⟩
    have a2p : a2 ≠ p := Ne.symm (j4.ne m2)
    refine ⟨p, _, _, _, rfl, .inr (.inl ⟨a2, rfl, a2p, setM_same⟩), by simp, by simp, j4.set (Ne.symm a2p), by omega, fun v mu5 hv j5 e5 => ?_⟩
    have ex5 : ExtBut p mu' mu5 := (ex3.trans e4).trans ((ExtBut.refl.own m2).trans e5)
    have hn : ∃ n : Nat, v = .int (n : Nat) ∧ n < 10 ^ 18 := by
      simp only [List.mem_cons, List.not_mem_nil, or_false] at hv
      rcases hv with rfl | rfl | rfl | rfl | rfl | rfl
      · exact ⟨0, rfl, by decide⟩
      · exact ⟨1, rfl, by decide⟩
      · exact ⟨9, rfl, by decide⟩
      · exact ⟨10, rfl, by decide⟩
      · exact ⟨10 ^ 17, rfl, by decide⟩
      · obtain ⟨k, rfl⟩ := Int.eq_ofNat_of_zero_le q0
        exact ⟨k, rfl, by omega⟩
    obtain ⟨n, rfl, n18⟩ := hn
    refine sg_name (i := 5) ?_ sc_Levents.nd
    have hF5 := ex5 _ _ Fp hF
    have hN5 := (ex.trans ex5) _ _ Np hN
    -- the event
    refine sss_cons (ss_expr (se_append (se_var (i := 2) rfl ?_)))
    refine ⟨⟨_, hF5⟩, sa_one (se_tup (sa_cons (se_var (i := 4) rfl (sa_cons (se_if (st_cmp op_eq eqT_w (nomark _) (se_var (i := 4) rfl (se_str ⟨_, _, rfl, rfl, fun b hb => ?_⟩))))))))⟩
    have fin : ∀ ev mu6, EvOk ev → JarOk mu6 p (c + 1 + 4 * i + 4) → ExtBut p mu' mu6 → mu6 F = some (.lst (es.map evW)) ∧ (es.map evW).length < sizeLine ∧ ∃ es2 : List Ev, (setM mu6 F (.lst (es.map evW ++ [evW ev]))) F = some (.lst (es2.map evW)) ∧ es2.length = i + 1 ∧ (∀ e ∈ es2, EvOk e) ∧
        JarOk (setM mu6 F (.lst (es.map evW ++ [evW ev]))) p (c + 1 + 4 * (i + 1)) ∧ ExtBut p mu (setM mu6 F (.lst (es.map evW ++ [evW ev]))) := by
      intro ev mu6 oe j6 e6
      refine ⟨e6 _ _ Fp hF, by rw [List.length_map, el]; exact Nat.lt_trans i29 (by decide), es ++ [ev], by rw [setM_same, List.map_append]; rfl, by simp [el], fun e he => ?_, (j6.set (Ne.symm Fp)).mono (by omega), (ex.trans e6).own nF⟩
      rcases List.mem_append.mp he with he | he
      · exact ok e he
      · rw [List.mem_singleton.mp he]; exact oe
    by_cases hb' : zw = "begin"
    · refine if2_t (by rw [hb]; exact decide_eq_true hb') ?_
      refine se_callD D_of (hr.mono (by decide)) (sa_cons (se_var (i := 0) rfl (sa_cons (se_var (i := 1) rfl (sa_nil ?_)))))
      refine ⟨p, _, _, _, rfl, .inr (.inl ⟨N, rfl, Np, hN5⟩), fun q => by
        have := congrArg List.length q
        rw [stW_len, List.length_nil] at this
        omega, by rw [stW_len]; omega, j5, by omega, fun v mu6 hv j6 e6 => ?_⟩
      obtain ⟨nn, hnn, rfl⟩ := List.mem_map.mp hv
      refine sa_nil ⟨by show 2 ≤ sizeLine; decide, ?_⟩
      obtain ⟨f1, f2, es2, f3, f4, f5, f6, f7⟩ := fin (.beg nn) mu6 (nm nn hnn) (j6.mono (by omega)) (ex5.trans e6)
      subst hb'
      exact ⟨_, f1, f2, sss_nil ⟨_, _, _, es2, rfl, f3, f4, f5, f6, f7⟩⟩
    · refine if2_f (by rw [hb]; exact decide_eq_false hb') ?_
      refine se_var (i := 5) rfl (sa_nil ⟨by show 2 ≤ sizeLine; decide, ?_⟩)
      obtain ⟨f1, f2, es2, f3, f4, f5, f6, f7⟩ := fin (.num zw n) mu5 ⟨hw.resolve_left hb', n18⟩ (j5.mono (by omega)) ex5
      exact ⟨_, f1, f2, sss_nil ⟨_, _, _, es2, rfl, f3, f4, f5, f6, f7⟩⟩
  · subst eG
    rw [List.length_map, List.length_range] at el jr
    refine sss_cons (ss_ret (se_tupleC (se_var (i := 2) rfl ⟨_, hF, ?_⟩) B.tuple))
    exact h es _ (by omega) ok (jr.mono (by omega)) ex
end
end K1
set_option Elab.async false
set_option linter.all false
set_option maxRecDepth 100000
/-! The law's answers. -/
namespace K1
open PySem L2 Dv
theorem val_hit {kvs : List (Key × W)} {k : Key} {w : W} : valW ((k, w) :: kvs) k = some w := if_pos rfl
theorem val_miss {kvs : List (Key × W)} {k j : Key} {w : W} {u : Option W} (h : ¬ j = k) (e : valW kvs k = u) : valW ((j, w) :: kvs) k = u := (if_neg h).trans e
abbrev kP : Key := .inr ("put" : Str)
abbrev kD : Key := .inr ("drop" : Str)
abbrev kL : Key := .inr ("look" : Str)
theorem key_pd : ¬ kP = kD := by decide +kernel
theorem key_pl : ¬ kP = kL := by decide +kernel
theorem key_dl : ¬ kD = kL := by decide +kernel
theorem ans_p : answersOf "put" = some [("done" : Str), "refused", "again"] := by decide +kernel
theorem ans_d : answersOf "drop" = some [("done" : Str), "none", "again"] := by decide +kernel
theorem ans_l : answersOf "look" = some [("there" : Str), "none", "again"] := by decide +kernel
theorem keys_nd : ([kP, kD, kL]).Nodup := by decide +kernel
section
variable {P : Program} {w : World} {K : PySem.W.Frag} {mg : Str → Option Value} {base : Heap}
abbrev s_Lanswer : Stmt := top 47
theorem sc_Lanswer : FnScope ["_law_jar_here", "_law_sort", "_law_some"] ["_law_jar_here", "_law_sort"] (defScope s_Lanswer) := ⟨rfl, rfl, rfl, by decide +kernel, rfl, by decide +kernel, by decide +kernel⟩
def S_Lanswer : SpW := fun ws mu P => ∃ p z c, ws = [.m p, .str z] ∧ z ∈ sorts ∧ JarOk mu p c ∧ c + 10 < 10000 ∧ ∀ y ys mu', answersOf z = some ys → y ∈ ys → JarOk mu' p (c + 1) → ExtBut p mu mu' → P (.str y) mu'
set_option maxHeartbeats 2000000 in
theorem d_Lanswer (D : Dfn K mg "_law_answer" s_Lanswer ["_law_jar_here", "_law_sort"]) (D_of : DOf P w K mg base) : DefOk P w K mg base "_law_answer" ["_law_jar_here", "_law_sort"] 3 S_Lanswer := by
  refine dfnOk D sc_Lanswer (fun ws mu P ⟨_, _, _, e, _⟩ => by rw [e]; rfl) (fun f cdv A outer s H E hr ws mu Pt ⟨p, z, c, e, hz, jar, c1, h⟩ => ?_)
  subst e
  refine sss_cons ?_
  refine ss_asg ?_
  refine se_disp ?_ ?_ ?_ ?_ ?_
  case refine_2 => rfl
  case refine_3 => rfl
  case refine_4 => exact List.cons_ne_nil _ _
  case refine_5 => show 3 ≤ 15; decide
  unfold SPs
  refine se_str (se_lst (sa_cons (se_str (sa_cons (se_str (sa_cons (se_str (sa_nil ⟨by show 3 ≤ sizeLine; decide, fun a1 m1 => ?_⟩))))))))
  obtain ⟨lp, elp⟩ : ∃ l, l = [W.str "done", .str "refused", .str "again"] := ⟨_, rfl⟩
  rw [← elp]
  have h1 : (setM mu a1 (.lst lp)) a1 = some (.lst lp) := setM_same
  have e1 : Ext mu (setM mu a1 (.lst lp)) := Ext.refl.set m1
  generalize setM mu a1 (.lst lp) = mu1 at h1 e1 ⊢
  unfold SPs
  refine se_str (se_lst (sa_cons (se_str (sa_cons (se_str (sa_cons (se_str (sa_nil ⟨by show 3 ≤ sizeLine; decide, fun a2 m2 => ?_⟩))))))))
  obtain ⟨ld, eld⟩ : ∃ l, l = [W.str "done", .str "none", .str "again"] := ⟨_, rfl⟩
  rw [← eld]
  have h2 : (setM mu1 a2 (.lst ld)) a2 = some (.lst ld) := setM_same
  have e2 : Ext mu1 (setM mu1 a2 (.lst ld)) := Ext.refl.set m2
  generalize setM mu1 a2 (.lst ld) = mu2 at h2 e2 ⊢
  unfold SPs
  refine se_str (se_lst (sa_cons (se_str (sa_cons (se_str (sa_cons (se_str (sa_nil ⟨by show 3 ≤ sizeLine; decide, fun a3 m3 => ?_⟩))))))))
  obtain ⟨ll, ell⟩ : ∃ l, l = [W.str "there", .str "none", .str "again"] := ⟨_, rfl⟩
  rw [← ell]
  have h3 : (setM mu2 a3 (.lst ll)) a3 = some (.lst ll) := setM_same
  have e3 : Ext mu2 (setM mu2 a3 (.lst ll)) := Ext.refl.set m3
  generalize setM mu2 a3 (.lst ll) = mu3 at h3 e3 ⊢
  have p1 : a1 ≠ p := Ne.symm (jar.ne m1)
  have p2 : a2 ≠ p := Ne.symm ((jar.ext e1).ne m2)
  have p3 : a3 ≠ p := Ne.symm (((jar.ext e1).ext e2).ne m3)
  have h1 := e3 _ _ (e2 _ _ h1)
  have h2 := e3 _ _ h2
  unfold SPs
  refine ⟨[(kP, .m a1), (kD, .m a2), (kL, .m a3)], rfl, keys_nd, by show 3 ≤ 15; decide, fun d nd => ?_⟩
  refine sg_name (i := 2) ?_ sc_Lanswer.nd
  have e4 : Ext mu3 (setM mu3 d (.dic [(kP, .m a1), (kD, .m a2), (kL, .m a3)])) := Ext.refl.set nd
  have hd : (setM mu3 d (.dic [(kP, .m a1), (kD, .m a2), (kL, .m a3)])) d = some (.dic [(kP, .m a1), (kD, .m a2), (kL, .m a3)]) := setM_same
  change SSs _ _ _ (setM mu3 d (.dic [(kP, .m a1), (kD, .m a2), (kL, .m a3)])) _
  generalize setM mu3 d (.dic [(kP, .m a1), (kD, .m a2), (kL, .m a3)]) = mu4 at e4 hd ⊢
  have et : Ext mu mu4 := ((e1.trans e2).trans e3).trans e4
  refine sss_cons (ss_ret (se_callD D_of (hr.mono (by decide)) (sa_cons (se_var (i := 0) rfl (sa_cons (se_dget (hu_of hr) (se_var (i := 2) rfl (se_var (i := 1) rfl ?_))))))))
  unfold sorts at hz
  simp only [List.mem_cons, List.not_mem_nil, or_false] at hz
  rcases hz with rfl | rfl | rfl
  · refine ⟨d, _, kP, .m a1, rfl, hd, rfl, val_hit, sa_nil ?_⟩
    refine ⟨p, _, _, _, rfl, .inr (.inl ⟨a1, rfl, p1, e4 _ _ h1⟩), by rw [elp]; simp, by rw [elp]; simp, jar.ext et, by omega, fun v mu5 hv j5 e5 => ?_⟩
    rw [elp] at hv
    simp only [List.mem_cons, List.not_mem_nil, or_false] at hv
    rcases hv with rfl | rfl | rfl
    all_goals exact h _ _ _ ans_p (by simp) j5 ((Ext.but et).trans e5)
  · refine ⟨d, _, kD, .m a2, rfl, hd, rfl, val_miss key_pd val_hit, sa_nil ?_⟩
    refine ⟨p, _, _, _, rfl, .inr (.inl ⟨a2, rfl, p2, e4 _ _ h2⟩), by rw [eld]; simp, by rw [eld]; simp, jar.ext et, by omega, fun v mu5 hv j5 e5 => ?_⟩
    rw [eld] at hv
    simp only [List.mem_cons, List.not_mem_nil, or_false] at hv
    rcases hv with rfl | rfl | rfl
    all_goals exact h _ _ _ ans_d (by simp) j5 ((Ext.but et).trans e5)
  · refine ⟨d, _, kL, .m a3, rfl, hd, rfl, val_miss key_pl (val_miss key_dl val_hit), sa_nil ?_⟩
    refine ⟨p, _, _, _, rfl, .inr (.inl ⟨a3, rfl, p3, e4 _ _ h3⟩), by rw [ell]; simp, by rw [ell]; simp, jar.ext et, by omega, fun v mu5 hv j5 e5 => ?_⟩
    rw [ell] at hv
    simp only [List.mem_cons, List.not_mem_nil, or_false] at hv
    rcases hv with rfl | rfl | rfl
    all_goals exact h _ _ _ ans_l (by simp) j5 ((Ext.but et).trans e5)
end
end K1
set_option Elab.async false
set_option linter.all false
set_option maxRecDepth 100000
/-! The law's histories: what is kept turn by turn. -/
namespace K1
open PySem L2 Dv
def cnt (h : List Rec) (k : Str) : Nat := (h.filter fun r => decide (r.k = k)).length
structure BkOk (now : Nat) (h : List Rec) : Prop where
  len : h.length ≤ 24
  each : ∀ r ∈ h, RecOk r
  bto : ∀ x ∈ beginsOf h, x ≤ (now : Int)
  eto : ∀ x ∈ endsOf h, x ≤ (now : Int)
  up : (beginsOf h).Pairwise (· < ·)
  nd : (beginsOf h ++ endsOf h).Nodup
  few : ∀ k, cnt h k ≤ 8
theorem BkOk.hist {now : Nat} {h : List Rec} (o : BkOk now h) : HistOk h := ⟨o.len, o.each, o.up, o.nd, o.few⟩
theorem BkOk.nil : BkOk 0 [] := ⟨by simp, by simp, by simp [beginsOf], by simp [endsOf], by simp [beginsOf], by simp [beginsOf, endsOf], by simp [cnt]⟩
theorem BkOk.mono {now now' : Nat} {h : List Rec} (o : BkOk now h) (l : now ≤ now') : BkOk now' h := ⟨o.len, o.each, fun x hx => by have := o.bto x hx; omega, fun x hx => by have := o.eto x hx; omega, o.up, o.nd, o.few⟩
theorem begins_app (a b : List Rec) : beginsOf (a ++ b) = beginsOf a ++ beginsOf b := List.map_append ..
theorem ends_app (a b : List Rec) : endsOf (a ++ b) = endsOf a ++ endsOf b := List.filterMap_append ..
theorem cnt_app (a b : List Rec) (k : Str) : cnt (a ++ b) k = cnt a k + cnt b k := by unfold cnt; rw [List.filter_append, List.length_append]
theorem cnt_one (r : Rec) (k : Str) : cnt [r] k = if r.k = k then 1 else 0 := by
  unfold cnt
  by_cases e : r.k = k <;> simp [e]
theorem BkOk.add {now now' : Nat} {h : List Rec} (o : BkOk now h) (l : now < now') {k s : Str} (h24 : h.length < 24) (h8 : cnt h k < 8) (nk : NmOk k) (so : s ∈ sorts) (n18 : now' < 10 ^ 18) : BkOk now' (h ++ [⟨now', none, k, s⟩]) := by
  have be : beginsOf (h ++ [⟨now', none, k, s⟩]) = beginsOf h ++ [(now' : Int)] := begins_app ..
  have ee : endsOf (h ++ [⟨now', none, k, s⟩]) = endsOf h := by rw [ends_app]; exact List.append_nil _
  refine ⟨by rw [List.length_append]; exact h24, fun r hr => ?_, fun x hx => ?_, fun x hx => ?_, ?_, ?_, fun j => ?_⟩
  · rcases List.mem_append.mp hr with z | z
    · exact o.each r z
    · rw [List.mem_singleton.mp z]
      exact ⟨by show 1 ≤ now'; omega, n18, nk, so, fun q e => by cases e⟩
  · rw [be] at hx
    rcases List.mem_append.mp hx with z | z
    · have := o.bto x z; omega
    · rw [List.mem_singleton.mp z]; exact Int.le_refl _
  · rw [ee] at hx
    have := o.eto x hx
    omega
  · rw [be, List.pairwise_append]
    refine ⟨o.up, List.pairwise_singleton .., fun a ha b hb => ?_⟩
    have := o.bto a ha
    rw [List.mem_singleton.mp hb]
    omega
  · rw [be, ee]
    have p : ((beginsOf h ++ [(now' : Int)]) ++ endsOf h).Perm ((now' : Int) :: (beginsOf h ++ endsOf h)) := by
      rw [List.append_assoc]
      exact List.perm_middle
    rw [p.nodup_iff, List.nodup_cons]
    refine ⟨fun z => ?_, o.nd⟩
    rcases List.mem_append.mp z with z | z
    · have := o.bto _ z; omega
    · have := o.eto _ z; omega
  · rw [cnt_app, cnt_one]
    have := o.few j
    by_cases e : k = j
    · rw [if_pos e, ← e]; omega
    · rw [if_neg e]; exact this
theorem set_mid {α : Type} : ∀ {l : List α} {i : Nat} {x : α} (y : α), l[i]? = some x → ∃ a b, l = a ++ x :: b ∧ l.set i y = a ++ y :: b
  | [], i, x, y, h => by cases h
  | z :: l, 0, x, y, h => by
    cases h
    exact ⟨[], l, rfl, rfl⟩
  | z :: l, i + 1, x, y, h => by
    obtain ⟨a, b, e1, e2⟩ := set_mid (l := l) y h
    exact ⟨z :: a, b, by rw [e1]; rfl, by rw [List.set_cons_succ, e2]; rfl⟩
theorem ends_sub (r : Rec) (b : List Rec) : (endsOf b).Sublist (endsOf (r :: b)) := by
  unfold endsOf
  rw [List.filterMap_cons]
  split
  · exact List.Sublist.refl _
  · exact List.sublist_cons_self ..
theorem BkOk.fin {now now' : Nat} {h : List Rec} (o : BkOk now h) (l : now < now') {i : Nat} {r : Rec} (hi : h[i]? = some r) {ys : List Str} {y : Str} (hy : answersOf r.s = some ys) (yy : y ∈ ys) (n18 : now' < 10 ^ 18) :
    BkOk now' (h.set i ⟨r.b, some (now', y), r.k, r.s⟩) ∧ ∀ k, cnt (h.set i ⟨r.b, some (now', y), r.k, r.s⟩) k = cnt h k := by
  obtain ⟨a, b, e1, e2⟩ := set_mid ⟨r.b, some (now', y), r.k, r.s⟩ hi
  rw [e2]
  subst e1
  have be : beginsOf (a ++ ⟨r.b, some (now', y), r.k, r.s⟩ :: b) = beginsOf (a ++ r :: b) := by rw [begins_app, begins_app]; rfl
  have ee : endsOf (a ++ ⟨r.b, some (now', y), r.k, r.s⟩ :: b) = endsOf a ++ (now' : Int) :: endsOf b := by rw [ends_app]; rfl
  have sub : (endsOf a ++ endsOf b).Sublist (endsOf (a ++ r :: b)) := by
    rw [ends_app]
    exact (List.Sublist.refl _).append (ends_sub r b)
  have ct : ∀ k, cnt (a ++ ⟨r.b, some (now', y), r.k, r.s⟩ :: b) k = cnt (a ++ r :: b) k := fun k => by
    rw [show (a ++ ⟨r.b, some (now', y), r.k, r.s⟩ :: b) = a ++ ([⟨r.b, some (now', y), r.k, r.s⟩] ++ b) from rfl, show (a ++ r :: b) = a ++ ([r] ++ b) from rfl]
    rw [cnt_app, cnt_app, cnt_one, cnt_app, cnt_app, cnt_one]
  have rm : r ∈ a ++ r :: b := by simp
  have rok := o.each r rm
  have rb : ((r.b : Nat) : Int) ≤ now := o.bto _ (by unfold beginsOf; exact List.mem_map.mpr ⟨r, rm, rfl⟩)
  refine ⟨⟨?_, fun q hq => ?_, fun x hx => ?_, fun x hx => ?_, by rw [be]; exact o.up, ?_, fun k => by rw [ct]; exact o.few k⟩, ct⟩
  · have := o.len
    simp only [List.length_append, List.length_cons] at this ⊢
    exact this
  · rcases List.mem_append.mp hq with z | z
    · exact o.each q (by simp [z])
    · rcases List.mem_cons.mp z with z | z
      · rw [z]
        exact ⟨rok.b1, rok.b2, rok.nm, rok.so, fun q e => by
          cases e
          exact ⟨by show r.b < now'; omega, n18, ys, hy, yy⟩⟩
      · exact o.each q (by simp [z])
  · rw [be] at hx
    have := o.bto x hx
    omega
  · rw [ee] at hx
    rcases List.mem_append.mp hx with z | z
    · have := o.eto x (sub.subset (by simp [z])); omega
    · rcases List.mem_cons.mp z with z | z
      · omega
      · have := o.eto x (sub.subset (by simp [z])); omega
  · rw [be, ee]
    have p : (beginsOf (a ++ r :: b) ++ (endsOf a ++ (now' : Int) :: endsOf b)).Perm ((now' : Int) :: (beginsOf (a ++ r :: b) ++ (endsOf a ++ endsOf b))) := by
      rw [← List.append_assoc, ← List.append_assoc]
      exact List.perm_middle
    have sb : (beginsOf (a ++ r :: b) ++ (endsOf a ++ endsOf b)).Sublist (beginsOf (a ++ r :: b) ++ endsOf (a ++ r :: b)) := (List.Sublist.refl _).append sub
    rw [p.nodup_iff, List.nodup_cons]
    refine ⟨fun z => ?_, o.nd.sublist sb⟩
    rcases List.mem_append.mp z with z | z
    · have := o.bto _ z; omega
    · have := o.eto _ (sub.subset z); omega
/-- how many of each key -/
structure CtOk (kvs : List (Key × W)) (h : List Rec) : Prop where
  nd : (kvs.map (·.1)).Nodup
  len : kvs.length ≤ h.length
  val : ∀ k : Str, (valW kvs (.inr k)).getD (.int 0) = .int (cnt h k : Nat)
theorem CtOk.nil : CtOk [] [] := ⟨by simp, by simp, fun k => by simp [valW, cnt]⟩
theorem putW_len (kvs : List (Key × W)) (k : Key) (w : W) : (putW kvs k w).length ≤ kvs.length + 1 := by
  have := congrArg List.length (putW_keys (kvs := kvs) (k := k) (w := w))
  split at this <;> simp only [List.length_map, List.length_append, List.length_singleton] at this <;> omega
theorem CtOk.add {kvs : List (Key × W)} {h : List Rec} (o : CtOk kvs h) (k : Str) (r : Rec) (e : r.k = k) : CtOk (putW kvs (.inr k) (.int ((cnt h k : Nat) + 1))) (h ++ [r]) := by
  refine ⟨putW_nodup o.nd, ?_, fun j => ?_⟩
  · have := putW_len kvs (.inr k) (.int ((cnt h k : Nat) + 1))
    have := o.len
    rw [List.length_append, List.length_singleton]
    omega
  · rw [valW_put, cnt_app, cnt_one]
    by_cases z : k = j
    · subst z
      rw [if_pos rfl, if_pos e]
      rfl
    · rw [if_neg (fun q => z (by injection q)), if_neg (fun q => z (e.symm.trans q)), o.val j]
      rfl
theorem CtOk.eq {kvs : List (Key × W)} {h h' : List Rec} (o : CtOk kvs h) (l : h'.length = h.length) (e : ∀ k, cnt h' k = cnt h k) : CtOk kvs h' := ⟨o.nd, by rw [l]; exact o.len, fun k => by rw [e]; exact o.val k⟩
structure Bk (mu : Mu) (F L M : Addr) (hs : List Rec) (lf : List Nat) (kvs : List (Key × W)) (now : Nat) : Prop where
  f : mu F = some (.lst (hs.map recW))
  l : mu L = some (.lst (lf.map fun n : Nat => W.int n))
  m : mu M = some (.dic kvs)
  lt : ∀ n ∈ lf, n < hs.length
  few : lf.length ≤ hs.length
  ok : BkOk now hs
  ct : CtOk kvs hs
theorem Bk.but {mu mu' : Mu} {p F L M : Addr} {hs : List Rec} {lf : List Nat} {kvs : List (Key × W)} {now : Nat} (b : Bk mu F L M hs lf kvs now) (e : ExtBut p mu mu') (Fp : F ≠ p) (Lp : L ≠ p) (Mp : M ≠ p) : Bk mu' F L M hs lf kvs now :=
  ⟨e _ _ Fp b.f, e _ _ Lp b.l, e _ _ Mp b.m, b.lt, b.few, b.ok, b.ct⟩
theorem Bk.mono {mu : Mu} {F L M : Addr} {hs : List Rec} {lf : List Nat} {kvs : List (Key × W)} {now now' : Nat} (b : Bk mu F L M hs lf kvs now) (e : now ≤ now') : Bk mu F L M hs lf kvs now' := ⟨b.f, b.l, b.m, b.lt, b.few, b.ok.mono e, b.ct⟩
theorem setM_none {mu : Mu} {a b : Addr} {c : C} (h : setM mu a c b = none) : b ≠ a ∧ mu b = none := by
  by_cases z : b = a
  · rw [z, setM_same] at h; cases h
  · exact ⟨z, by rwa [setM_ne z] at h⟩
theorem seq_nat {r : Nat} {n : Nat} (h : r < n) : seqIndex? (r : Int) n = some r := (ixN_seq (j := r) (by unfold ixN; simp [h])).1
theorem shaped_ints (ns : List Nat) : SeqAt.shaped (.list (dats (ns.map fun n : Nat => W.int n))) = true := by
  have hl : (PyData.list (dats (ns.map fun n : Nat => W.int n))).canLay0 = true := by
    simp only [PyData.canLay0]
    rw [dats_map]
    exact lay_all (fun z : Nat => dat (.int z)) fun x hx => by simp [dat, PyData.canLay0]
  have hd : (PyData.list (dats (ns.map fun n : Nat => W.int n))).depth ≤ 64 := by
    simp only [PyData.depth]
    rw [dats_map]
    have := depth_all (fun z : Nat => dat (.int z)) (n := 0) (xs := ns) fun z _ => by simp [dat, PyData.depth]
    omega
  unfold SeqAt.shaped
  rw [hl, decide_eq_true hd]
  rfl
theorem ne_nilN {mu : Mu} {a b : Addr} {ns : List Nat} {P : PW1} (ha : mu a = some (.lst (ns.map fun n : Nat => W.int n))) (hb : mu b = some (.lst [])) (h : P (.bl (!decide (ns = []))) mu) : neW (.m a) (.m b) mu P := by
  refine ⟨.list (dats (ns.map fun n : Nat => W.int n)), .list [], ?_, ?_, shaped_ints ns, by decide, ?_⟩
  · simp only [asD, ha]
    rw [if_pos (show plsW (ns.map fun n : Nat => W.int n) = true from plains_map _ (fun _ => by simp [plW]) ns)]
  · simp only [asD, hb]
    rfl
  · cases ns with
    | nil => exact h
    | cons n r => exact h
end K1
set_option Elab.async false
set_option linter.all false
set_option maxRecDepth 100000
/-! The law's histories. -/
namespace K1
open PySem L2 Dv
theorem if2_keep {k : Bool} {A B : Prop} (hB : B) (h : k = true → B → A) : if2 k A B := by
  cases k with
  | true => exact h rfl hB
  | false => exact hB
section
variable {P : Program} {w : World} {K : PySem.W.Frag} {mg : Str → Option Value} {base : Heap}
abbrev s_Lbook : Stmt := top 48
theorem sc_Lbook : FnScope ["_law_jar_here", "_law_names_here", "_law_found", "_law_left", "_law_now", "_law_many", "_law_turn", "_law_key", "_law_at", "_law_begin", "_law_end", "_law_sort", "_law_answer_here"] ["_law_jar_here", "_law_names_here"] (defScope s_Lbook) := ⟨rfl, rfl, rfl, by decide +kernel, rfl, by decide +kernel, by decide +kernel⟩
def S_book : SpW := fun ws mu P => ∃ p N ns c, ws = [.m p, .m N] ∧ NsOk mu N p ns ∧ JarOk mu p c ∧ c + 400 < 10000 ∧ ∀ h mu', HistOk h → JarOk mu' p (c + 300) → ExtBut p mu mu' → P (histW h) mu'
theorem erase_map {α β : Type} (f : α → β) : ∀ (l : List α) (k : Nat), (l.map f).eraseIdx k = (l.eraseIdx k).map f
  | [], _ => rfl
  | x :: r, 0 => rfl
  | x :: r, k + 1 => by
    have := erase_map f r k
    simp only [List.map_cons, List.eraseIdx_cons_succ, this]
theorem sort_of {v : W} (h : v ∈ [W.str "put", .str "drop", .str "look"]) : ∃ z, v = .str z ∧ z ∈ sorts := by
  simp only [List.mem_cons, List.not_mem_nil, or_false] at h
  rcases h with rfl | rfl | rfl
  all_goals exact ⟨_, rfl, by decide +kernel⟩
set_option maxHeartbeats 4000000 in
theorem d_Lbook (D : Dfn K mg "_law_book" s_Lbook ["_law_jar_here", "_law_names_here"]) (B : Bl mg) (D_take : DTake P w K mg base) (D_of : DOf P w K mg base) (D_answer : DefOk P w K mg base "_law_answer" ["_law_jar_here", "_law_sort"] 3 S_Lanswer) : DefOk P w K mg base "_law_book" ["_law_jar_here", "_law_names_here"] 4 S_book := by
  refine dfnOk D sc_Lbook (fun ws mu P ⟨_, _, _, _, e, _⟩ => by rw [e]; rfl) (fun f cdv A outer s H E hr ws mu Pt ⟨p, N, ns, c, e, ⟨hN, Np, n1, n26, nm⟩, jar, c1, h⟩ => ?_)
  subst e
  refine sss_cons (ss_asg (se_tup (sa_cons (se_lst (sa_nil ⟨by decide, fun F nF => ?_⟩)))))
  refine sa_cons (se_lst (sa_nil ⟨by decide, fun L nL => ?_⟩))
  refine sa_cons (se_int (sa_cons (se_dnew fun M nM => sa_nil ⟨by show 4 ≤ sizeLine; decide, ?_⟩)))
  obtain ⟨LF, nL⟩ := setM_none nL
  obtain ⟨ML, nM⟩ := setM_none nM
  obtain ⟨MF, nM⟩ := setM_none nM
  have Fp : F ≠ p := Ne.symm (jar.ne nF)
  have Lp : L ≠ p := Ne.symm (jar.ne nL)
  have Mp : M ≠ p := Ne.symm (jar.ne nM)
  refine sg_tup ?_
  refine sgs_cons (sg_name (i := 2) ?_ sc_Lbook.nd)
  refine sgs_cons (sg_name (i := 3) ?_ sc_Lbook.nd)
  refine sgs_cons (sg_name (i := 4) ?_ sc_Lbook.nd)
  refine sgs_cons (sg_name (i := 5) ?_ sc_Lbook.nd)
  refine sgs_nil ?_
  have E0 : ExtBut p mu (setM (setM (setM mu F (.lst [])) L (.lst [])) M (.dic [])) := ((ExtBut.refl.own nF).own nL).own nM
  have j0 : JarOk (setM (setM (setM mu F (.lst [])) L (.lst [])) M (.dic [])) p c := ((jar.set (Ne.symm Fp)).set (Ne.symm Lp)).set (Ne.symm Mp)
  have b0 : Bk (setM (setM (setM mu F (.lst [])) L (.lst [])) M (.dic [])) F L M [] [] [] 0 := ⟨by rw [setM_ne (Ne.symm MF), setM_ne (Ne.symm LF), setM_same]; rfl, by rw [setM_ne (Ne.symm ML), setM_same]; rfl, setM_same, by simp, by simp, BkOk.nil, CtOk.nil⟩
  generalize setM (setM (setM mu F (.lst [])) L (.lst [])) M (.dic []) = mu1 at E0 j0 b0 ⊢
  refine sss_cons ?_
  refine ss_for PassesOwn.never rfl (by intro _; rfl) ?_
  refine si_range ?_ B.range
  refine se_callD D_take (hr.mono (by decide)) (sa_cons (se_var (i := 0) rfl (sa_cons (se_int (sa_nil ?_)))))
  refine ⟨p, 49, _, rfl, by decide, by decide, j0, by omega, fun r mu2 r0 r1 j2 e2 => ⟨by omega, by omega, ?_⟩⟩
  refine ⟨fun i G' mu' => ∃ x6 x7 x8 x9 x10 x11 x12, ∃ (hs : List Rec) (lf : List Nat) (kvs : List (Key × W)) (now : Nat), G' = [some (.m p), some (.m N), some (.m F), some (.m L), some (.int (now : Nat)), some (.m M), x6, x7, x8, x9, x10, x11, x12] ∧ Bk mu' F L M hs lf kvs now ∧ now ≤ i * 10 ^ 9 ∧ JarOk mu' p (c + 1 + 6 * i) ∧ ExtBut p mu mu',
    ⟨none, none, none, none, none, none, none, [], [], [], 0, rfl, b0.but e2 Fp Lp Mp, Nat.zero_le _, j2, E0.trans e2⟩, fun _ _ _ _ _ => trivial, fun i u G' mu' hu ⟨x6, x7, x8, x9, x10, x11, x12, hs, lf, kvs, now, eG, bk, nw, jr, ex⟩ => ?_, fun G' mu' ⟨x6, x7, x8, x9, x10, x11, x12, hs, lf, kvs, now, eG, bk, nw, jr, ex⟩ => ?_⟩
  · subst eG
    have hi : i < r.toNat := by have := (List.getElem?_eq_some_iff.mp hu).1; simpa using this
    have i48 : i < 48 + 1 := by omega
    refine sg_name (i := 6) ?_ sc_Lbook.nd
    -- the time
    refine sss_cons (ss_asg (se_bin op_Add Add_w ?_))
    refine se_var (i := 4) rfl ?_
    refine se_callD D_of (hr.mono (by decide)) (sa_cons (se_var (i := 0) rfl (sa_cons (se_lst ?_))))
    refine sa_cons (se_int (sa_cons (se_int (sa_cons (se_int (sa_cons (se_bin op_Pow Pow_w ?_)))))))
    refine se_int (se_int ?_)
    refine ⟨⟨by decide, by decide, by decide⟩, ?_⟩
    refine sa_nil ⟨by show 4 ≤ sizeLine; decide, fun a1 m1 => sa_nil ?_⟩
    have a1p : a1 ≠ p := Ne.symm (jr.ne m1)
    refine ⟨p, _, _, _, rfl, .inr (.inl ⟨a1, rfl, a1p, setM_same⟩), by simp, by simp, jr.set (Ne.symm a1p), by omega, fun v mu3 hv j3 e3 => ?_⟩
    have ex3 : ExtBut p mu' mu3 := (ExtBut.refl.own m1).trans e3
    obtain ⟨d, rfl, d1, d2⟩ : ∃ d : Nat, v = .int (d : Nat) ∧ 1 ≤ d ∧ d ≤ 10 ^ 9 := by
      simp only [List.mem_cons, List.not_mem_nil, or_false] at hv
      rcases hv with rfl | rfl | rfl | rfl
      · exact ⟨1, rfl, by decide, by decide⟩
      · exact ⟨1, rfl, by decide, by decide⟩
      · exact ⟨2, rfl, by decide, by decide⟩
      · exact ⟨10 ^ 9, rfl, by decide, by decide⟩
    refine sg_name (i := 4) ?_ sc_Lbook.nd
    have en : ((now : Nat) : Int) + ((d : Nat) : Int) = ((now + d : Nat) : Int) := by omega
    rw [en]
    obtain ⟨t, et⟩ : ∃ t, t = now + d := ⟨_, rfl⟩
    rw [← et]
    have nt : now < t := by omega
    have tb : t ≤ (i + 1) * 10 ^ 9 := by omega
    have t18 : t < 10 ^ 18 := Nat.lt_of_le_of_lt (Nat.le_trans tb (Nat.mul_le_mul_right _ i48)) (by decide)
    have bk3 : Bk mu3 F L M hs lf kvs now := bk.but ex3 Fp Lp Mp
    have hN3 := (ex.trans ex3) _ _ Np hN
    -- the key
    refine sss_cons (ss_asg (se_callD D_of (hr.mono (by decide)) (sa_cons (se_var (i := 0) rfl (sa_cons (se_var (i := 1) rfl (sa_nil ?_)))))))
    refine ⟨p, _, _, _, rfl, .inr (.inl ⟨N, rfl, Np, hN3⟩), fun q => by
      have := congrArg List.length q
      rw [stW_len, List.length_nil] at this
      omega, by rw [stW_len]; omega, j3, by omega, fun v mu4 hv j4 e4 => ?_⟩
    obtain ⟨key, hkey, rfl⟩ := List.mem_map.mp hv
    refine sg_name (i := 7) ?_ sc_Lbook.nd
    have bk4 : Bk mu4 F L M hs lf kvs now := bk3.but e4 Fp Lp Mp
    -- the test
    refine sss_cons (ss_if (st_of_w (sw_and (st_cmp op_eq eqN_w (nomark _) ?_))))
    refine se_callD D_take (hr.mono (by decide)) (sa_cons (se_var (i := 0) rfl (sa_cons (se_int (sa_nil ?_)))))
    refine ⟨p, 2, _, rfl, by decide, by decide, j4, by omega, fun q mu5 q0 q1 j5 e5 => ?_⟩
    refine se_int ⟨_, _, rfl, rfl, fun b hb => ?_⟩
    have bk5 : Bk mu5 F L M hs lf kvs now := bk4.but e5 Fp Lp Mp
    have ex5 : ExtBut p mu mu5 := (((ex.trans ex3).trans e4).trans e5)
    have le24 := bk5.ok.len
    refine if2_keep ?els (fun hb1 els => ?_)
    case els =>
      refine sss_cons (ss_if (st_cmp (op_neD hr.units) ne_w (nomark _) (se_var (i := 3) rfl (se_lst (sa_nil ⟨by decide, fun L3 n3 => ?_⟩)))))
      have ne3 : ∀ {q : Addr} {cc : C}, mu5 q = some cc → q ≠ L3 := fun hq z => by rw [z, n3] at hq; cases hq
      have ex6 : ExtBut p mu5 (setM mu5 L3 (.lst [])) := ExtBut.refl.own n3
      have bk6 := bk5.but ex6 Fp Lp Mp
      have j6 := j5.set (x := .lst []) (j5.ne n3)
      refine ne_nilN bk6.l setM_same ?_
      generalize setM mu5 L3 (.lst []) = mu6 at ex6 bk6 j6 ⊢
      have ex6 := ex5.trans ex6
      by_cases hlf : lf = []
      · rw [decide_eq_true hlf]
        refine sss_nil (sss_nil (sss_nil ?_))
        exact ⟨_, _, _, _, _, _, _, hs, lf, kvs, t, rfl, bk6.mono (Nat.le_of_lt nt), tb, j6.mono (by omega), ex6⟩
      · rw [decide_eq_false hlf]
        have pos : 1 ≤ lf.length := by
          cases lf with
          | nil => exact absurd rfl hlf
          | cons x y => simp
        have lf24 := bk6.few
        refine sss_cons (ss_asg (se_pop (se_var (i := 3) rfl ⟨⟨_, bk6.l⟩, sa_one ?_⟩)))
        refine se_callD D_take (hr.mono (by decide)) (sa_cons (se_var (i := 0) rfl (sa_cons (se_len (se_var (i := 3) rfl ⟨_, bk6.l, sa_nil ?_⟩) B.len))))
        refine ⟨p, _, _, rfl, by rw [List.length_map]; omega, by rw [List.length_map]; omega, j6, by omega, fun q mu7 q0 q1 j7 e7 => ?_⟩
        rw [List.length_map] at q1
        obtain ⟨k, rfl⟩ : ∃ k : Nat, q = k := ⟨q.toNat, by omega⟩
        have hk : k < lf.length := by omega
        have bk7 := bk6.but e7 Fp Lp Mp
        have hat := bk7.lt lf[k] (List.getElem_mem hk)
        refine ⟨_, k, .int (lf[k] : Nat), bk7.l, by omega, by omega, seq_nat (by rw [List.length_map]; exact hk), by rw [List.getElem?_map, List.getElem?_eq_getElem hk]; rfl, ?_⟩
        refine sg_name (i := 8) ?_ sc_Lbook.nd
        obtain ⟨at_, eat⟩ : ∃ a, a = lf[k] := ⟨_, rfl⟩
        rw [← eat] at hat ⊢
        have e8 := erase_map (fun n : Nat => W.int n) lf k
        rw [e8]
        have bk8 : Bk (setM mu7 L (.lst ((lf.eraseIdx k).map fun n : Nat => W.int n))) F L M hs (lf.eraseIdx k) kvs now := ⟨by rw [setM_ne (Ne.symm LF)]; exact bk7.f, setM_same, by rw [setM_ne ML]; exact bk7.m, fun n hn => bk7.lt n (List.mem_of_mem_eraseIdx hn), by
          have := List.length_eraseIdx_of_lt hk
          omega, bk7.ok, bk7.ct⟩
        have j8 := j7.set (x := .lst ((lf.eraseIdx k).map fun n : Nat => W.int n)) (Ne.symm Lp)
        have ex8 := (ex6.trans e7).own (c := .lst ((lf.eraseIdx k).map fun n : Nat => W.int n)) nL
        generalize setM mu7 L (.lst ((lf.eraseIdx k).map fun n : Nat => W.int n)) = mu8 at bk8 j8 ex8 ⊢
        obtain ⟨rc, hrc⟩ : ∃ rc, hs[at_]? = some rc := ⟨_, List.getElem?_eq_getElem hat⟩
        have rok := bk8.ok.each rc (List.mem_of_getElem? hrc)
        refine sss_cons (ss_asg (se_ix (se_var (i := 2) rfl (se_var (i := 8) rfl ⟨_, recW rc, bk8.f, atI_nat' (by rw [List.getElem?_map, hrc]; rfl), ?_⟩))))
        refine sg_tup ?_
        refine sgs_cons (sg_name (i := 9) ?_ sc_Lbook.nd)
        refine sgs_cons (sg_name (i := 10) ?_ sc_Lbook.nd)
        refine sgs_cons (sg_name (i := 7) ?_ sc_Lbook.nd)
        refine sgs_cons (sg_name (i := 11) ?_ sc_Lbook.nd)
        refine sgs_cons (sg_name (i := 12) ?_ sc_Lbook.nd)
        refine sgs_nil ?_
        refine sss_cons (ss_stL (se_tup ?_))
        refine sa_cons (se_var (i := 9) rfl (sa_cons (se_var (i := 4) rfl (sa_cons (se_var (i := 7) rfl (sa_cons (se_var (i := 11) rfl (sa_cons (se_callD D_answer (hr.mono (by decide)) ?_)))))))))
        refine sa_cons (se_var (i := 0) rfl (sa_cons (se_var (i := 11) rfl (sa_nil ?_))))
        refine ⟨p, rc.s, _, rfl, rok.so, j8, by omega, fun y ys mu9 hys hy j9 e9 => ?_⟩
        refine sa_nil ⟨by show 5 ≤ sizeLine; decide, ?_⟩
        refine se_var (i := 2) rfl (se_var (i := 8) rfl ?_)
        have bk9 := bk8.but e9 Fp Lp Mp
        refine ⟨_, at_, bk9.f, by unfold ixN; rw [List.length_map]; simp [hat], ?_⟩
        obtain ⟨f1, f2⟩ := bk9.ok.fin nt hrc hys hy t18
        refine sss_nil (sss_nil (sss_nil ?_))
        have em : (hs.map recW).set at_ (.tup [.int (rc.b : Nat), .int (t : Nat), .str rc.k, .str rc.s, .str y]) = (hs.set at_ ⟨rc.b, some (t, y), rc.k, rc.s⟩).map recW := by rw [List.map_set]; rfl
        refine ⟨_, _, _, _, _, _, _, hs.set at_ ⟨rc.b, some (t, y), rc.k, rc.s⟩, lf.eraseIdx k, kvs, t, rfl, ⟨?_, by rw [setM_ne LF]; exact bk9.l, by rw [setM_ne MF]; exact bk9.m, fun n hn => by rw [List.length_set]; exact bk9.lt n hn, by rw [List.length_set]; exact bk9.few, f1, bk9.ct.eq (List.length_set ..) f2⟩, tb, (j9.set (Ne.symm Fp)).mono (by omega), (ex8.trans e9).own nF⟩
        rw [setM_same]
        exact congrArg (fun l => some (C.lst l)) em
    refine sw_and (st_cmp op_lt cmpI_w (nomark _) (se_len (se_var (i := 2) rfl ⟨_, bk5.f, se_int ?_⟩) B.len))
    refine if2_split (fun h2 => ?_) (fun _ => els)
    refine sw_and1 (st_cmp op_lt cmpI_w (nomark _) (se_get2 (hu_of hr) (se_var (i := 5) rfl ⟨_, _, rfl, bk5.m, se_var (i := 7) rfl (se_int ⟨_, _, bk5.m, rfl, ?_⟩)⟩)))
    rw [bk5.ct.val]
    refine se_int ?_
    refine if2_split (fun h3 => ?_) (fun _ => els)
    have l24 : hs.length < 24 := by
      have := of_decide_eq_true h2
      rw [List.length_map] at this
      omega
    have l8 : cnt hs key < 8 := by
      have := of_decide_eq_true h3
      omega
    refine sss_cons (ss_dput (hu_of hr) (se_bin op_Add Add_w (se_get2 (hu_of hr) (se_var (i := 5) rfl ⟨_, _, rfl, bk5.m, se_var (i := 7) rfl (se_int ⟨_, _, bk5.m, rfl, ?_⟩)⟩))))
    rw [bk5.ct.val]
    refine se_int (se_var (i := 5) rfl (se_var (i := 7) rfl ⟨M, kvs, _, rfl, ⟨bk5.m, bk5.ct.nd⟩, rfl, Nat.lt_of_le_of_lt (Nat.le_trans bk5.ct.len le24) (by decide), ?_⟩))
    have F6 : (setM mu5 M (.dic (putW kvs (.inr key) (.int ((cnt hs key : Nat) + 1))))) F = some (.lst (hs.map recW)) := by rw [setM_ne (Ne.symm MF)]; exact bk5.f
    have L6 : (setM mu5 M (.dic (putW kvs (.inr key) (.int ((cnt hs key : Nat) + 1))))) L = some (.lst (lf.map fun n : Nat => W.int n)) := by rw [setM_ne (Ne.symm ML)]; exact bk5.l
    have M6 : (setM mu5 M (.dic (putW kvs (.inr key) (.int ((cnt hs key : Nat) + 1))))) M = some (.dic (putW kvs (.inr key) (.int ((cnt hs key : Nat) + 1)))) := setM_same
    have j6 := j5.set (x := .dic (putW kvs (.inr key) (.int ((cnt hs key : Nat) + 1)))) (Ne.symm Mp)
    have ex6 := ex5.own (c := .dic (putW kvs (.inr key) (.int ((cnt hs key : Nat) + 1)))) nM
    change SSs _ _ _ (setM mu5 M (.dic (putW kvs (.inr key) (.int ((cnt hs key : Nat) + 1))))) _
    generalize setM mu5 M (.dic (putW kvs (.inr key) (.int ((cnt hs key : Nat) + 1)))) = mu6 at F6 L6 M6 j6 ex6 ⊢
    refine sss_cons (ss_expr (se_append (se_var (i := 3) rfl ⟨⟨_, L6⟩, sa_one (se_len (se_var (i := 2) rfl ⟨_, F6, _, L6, ?_, ?_⟩) B.len)⟩)))
    · rw [List.length_map]
      exact Nat.lt_of_le_of_lt (Nat.le_trans bk5.few le24) (by decide)
    have e7 : (lf.map fun n : Nat => W.int n) ++ [W.int ((hs.map recW).length : Nat)] = (lf ++ [hs.length]).map fun n : Nat => W.int n := by rw [List.length_map, List.map_append]; rfl
    rw [e7]
    have F7 : (setM mu6 L (.lst ((lf ++ [hs.length]).map fun n : Nat => W.int n))) F = some (.lst (hs.map recW)) := by rw [setM_ne (Ne.symm LF)]; exact F6
    have L7 : (setM mu6 L (.lst ((lf ++ [hs.length]).map fun n : Nat => W.int n))) L = some (.lst ((lf ++ [hs.length]).map fun n : Nat => W.int n)) := setM_same
    have M7 : (setM mu6 L (.lst ((lf ++ [hs.length]).map fun n : Nat => W.int n))) M = some (.dic (putW kvs (.inr key) (.int ((cnt hs key : Nat) + 1)))) := by rw [setM_ne ML]; exact M6
    have j7 := j6.set (x := .lst ((lf ++ [hs.length]).map fun n : Nat => W.int n)) (Ne.symm Lp)
    have ex7 := ex6.own (c := .lst ((lf ++ [hs.length]).map fun n : Nat => W.int n)) nL
    change SSs _ _ _ (setM mu6 L (.lst ((lf ++ [hs.length]).map fun n : Nat => W.int n))) _
    generalize setM mu6 L (.lst ((lf ++ [hs.length]).map fun n : Nat => W.int n)) = mu7 at F7 L7 M7 j7 ex7 ⊢
    refine sss_cons (ss_expr (se_append (se_var (i := 2) rfl ?_)))
    refine ⟨⟨_, F7⟩, sa_one (se_tup (sa_cons (se_var (i := 4) rfl (sa_cons (se_non (sa_cons (se_var (i := 7) rfl (sa_cons (se_callD D_of (hr.mono (by decide)) ?_)))))))))⟩
    refine sa_cons (se_var (i := 0) rfl (sa_cons (se_lst (sa_cons (se_str (sa_cons (se_str (sa_cons (se_str (sa_nil ⟨by show 3 ≤ sizeLine; decide, fun a3 m3 => sa_nil ?_⟩))))))))))
    have a3p : a3 ≠ p := Ne.symm (j7.ne m3)
    refine ⟨p, _, _, _, rfl, .inr (.inl ⟨a3, rfl, a3p, setM_same⟩), by simp, by simp, j7.set (Ne.symm a3p), by omega, fun v mu8 hv j8 e8 => ?_⟩
    obtain ⟨so, rfl, hso⟩ := sort_of hv
    have e78 : ExtBut p mu7 mu8 := (ExtBut.refl.own m3).trans e8
    refine sa_cons (se_non (sa_nil ⟨by show 5 ≤ sizeLine; decide, ?_⟩))
    refine ⟨_, e78 _ _ Fp F7, by rw [List.length_map]; exact Nat.lt_of_lt_of_le l24 (by decide), sss_nil (sss_nil ?_)⟩
    have em : hs.map recW ++ [W.tup [.int (t : Nat), .non, .str key, .str so, .non]] = (hs ++ [(⟨t, none, key, so⟩ : Rec)]).map recW := by rw [List.map_append]; rfl
    have tail : ∀ l, l = (hs ++ [(⟨t, none, key, so⟩ : Rec)]).map recW → ∃ z6 z7 z8 z9 z10 z11 z12, ∃ (hs2 : List Rec) (lf2 : List Nat) (kvs2 : List (Key × W)) (now2 : Nat), [some (W.m p), some (.m N), some (.m F), some (.m L), some (.int (t : Nat)), some (.m M), some u, some (.str key), x8, x9, x10, x11, x12] = [some (.m p), some (.m N), some (.m F), some (.m L), some (.int (now2 : Nat)), some (.m M), z6, z7, z8, z9, z10, z11, z12] ∧ Bk (setM mu8 F (.lst l)) F L M hs2 lf2 kvs2 now2 ∧ now2 ≤ (i + 1) * 10 ^ 9 ∧ JarOk (setM mu8 F (.lst l)) p (c + 1 + 6 * (i + 1)) ∧ ExtBut p mu (setM mu8 F (.lst l)) := fun l hl => by
      subst hl
      refine ⟨_, _, _, _, _, _, _, hs ++ [⟨t, none, key, so⟩], lf ++ [hs.length], _, t, rfl, ⟨setM_same, by rw [setM_ne LF]; exact e78 _ _ Lp L7, by rw [setM_ne MF]; exact e78 _ _ Mp M7, fun n hn => ?_, ?_, bk5.ok.add nt l24 l8 (nm key hkey) hso t18, bk5.ct.add key _ rfl⟩, tb, (j8.set (Ne.symm Fp)).mono (by omega), (ex7.trans e78).own nF⟩
      · rw [List.length_append, List.length_singleton]
        rcases List.mem_append.mp hn with z | z
        · have := bk5.lt n z; omega
        · rw [List.mem_singleton.mp z]; omega
      · rw [List.length_append, List.length_append, List.length_singleton, List.length_singleton]
        have := bk5.few
        omega
    obtain ⟨y6, y7, y8, y9, y10, y11, y12, hs2, lf2, kvs2, now2, q1, q2⟩ := tail _ em
    exact ⟨y6, y7, y8, y9, y10, y11, y12, hs2, lf2, kvs2, now2, q1, q2⟩
  · subst eG
    rw [List.length_map, List.length_range] at nw jr
    refine sss_cons (ss_ret (se_tupleC (se_var (i := 2) rfl ⟨_, bk.f, ?_⟩) B.tuple))
    exact h hs _ bk.ok.hist (jr.mono (by omega)) ex
end
end K1
set_option Elab.async false
set_option linter.all false
set_option maxRecDepth 100000
/-! The law's lines. -/
namespace K1
open PySem L2 Dv
section
variable {P : Program} {w : World} {K : PySem.W.Frag} {mg : Str → Option Value} {base : Heap}
abbrev s_Llines : Stmt := top 49
theorem sc_Llines : FnScope ["_law_rows", "_law_row", "_law_part"] ["_law_rows"] (defScope s_Llines) := ⟨rfl, rfl, rfl, by decide +kernel, rfl, by decide +kernel, by decide +kernel⟩
def S_lines : SpW := fun ws mu P => ∃ rows : List (List W), ws = [.tup (rows.map W.tup)] ∧ rows.length ≤ 60 ∧ (∀ r ∈ rows, LnOk (r.map partS) ∧ ∀ x ∈ r, PartOk x) ∧ ∀ mu', Ext mu mu' → P (.str (pageOf (rows.map fun r => r.map partS))) mu'
set_option maxHeartbeats 1000000 in
theorem d_Llines (D : Dfn K mg "_law_lines" s_Llines ["_law_rows"]) (B : Bl mg) : DefOk P w K mg base "_law_lines" ["_law_rows"] 1 S_lines := by
  refine dfnOk D sc_Llines (fun ws mu P ⟨q, e, _⟩ => by rw [e]; rfl) (fun f cdv A outer s H E hr ws mu Pt ⟨rows, e, hl, ok, h⟩ => ?_)
  subst e
  refine sss_cons (ss_ret (se_join (se_str ⟨_, rfl, ?_⟩)))
  refine se_lc (own := [("_law_row", 1)]) (.nm 1) rfl sc_Llines.nd (blkOk_by (N := ["_law_rows", "_law_row", "_law_part"]) (sc := defScope s_Llines) (by decide +kernel)) rfl (fun _ _ _ _ _ => (pg_name (i := 1) sc_Llines.nd rfl (by first | exact Or.inl rfl | exact Or.inr rfl))) (by intro _; rfl) ?_
  refine si_tup (se_var (i := 0) rfl ?_)
  intro Dd hDd
  refine ⟨fun i acc mu2 => acc = (rows.take i).map (fun r => W.str (Txt.join " " (r.map partS))) ∧ Ext mu mu2, ⟨rfl, Ext.refl⟩, fun _ _ _ _ _ => trivial, fun i u acc mu2 hu q => ?_, fun acc mu2 q => ?_⟩
  · obtain ⟨ea, ex⟩ := q
    rw [List.getElem?_map] at hu
    cases ht : rows[i]? with
    | none => rw [ht] at hu; cases hu
    | some r =>
    rw [ht] at hu
    cases hu
    have rm := List.mem_of_getElem? ht
    obtain ⟨lo, po⟩ := ok r rm
    have rl : r.length ≤ 30 := by have := lo.1; rwa [List.length_map] at this
    refine ⟨by rw [ea, List.length_map, List.length_take]; exact Nat.lt_of_le_of_lt (by omega : min i rows.length ≤ 60) (by decide), _, rfl, fun s H C cl fp => ?_⟩
    refine se_join (se_str ⟨_, rfl, ?_⟩)
    refine se_lc (own := [("_law_part", 2)]) (.nm 2) rfl sc_Llines.nd (blkOk_by (N := ["_law_rows", "_law_row", "_law_part"]) (sc := { kind := .function, names := [((".0" : Str), .local), ("_law_row", .local)], isGenerator := false, isCoroutine := false }) (by decide +kernel)) rfl (fun _ _ _ _ _ => (pg_name (i := 2) sc_Llines.nd rfl (Or.inl rfl))) (by intro _; rfl) ?_
    refine si_tup (se_var (i := 1) rfl ?_)
    intro D2 hD2
    refine ⟨fun j acc2 mu3 => acc2 = (r.take j).map (fun x => W.str (partS x)) ∧ Ext mu2 mu3, ⟨rfl, Ext.refl⟩, fun _ _ _ _ _ => trivial, fun j u acc2 mu3 hu q3 => ?_, fun acc2 mu3 q3 => ?_⟩
    · obtain ⟨eb, ex3⟩ := q3
      have um := List.mem_of_getElem? hu
      refine ⟨by rw [eb, List.length_map, List.length_take]; exact Nat.lt_of_le_of_lt (by omega : min j r.length ≤ 60) (by decide), _, rfl, fun s H C cl fp => ?_⟩
      have fin : ∀ x, x = partS u → (acc2 ++ [W.str x] = (r.take (j + 1)).map (fun x => W.str (partS x)) ∧ Ext mu2 mu3) := fun x hx => ⟨by rw [eb, hx, List.take_add_one, hu, List.map_append]; rfl, ex3⟩
      refine se_if (st_cmp op_isN isN_w (nomark _) (se_var (i := 2) rfl (se_non ⟨rfl, fun b hb => ?_⟩)))
      rcases po u um with rfl | ⟨n, rfl, hn⟩ | ⟨z, rfl⟩
      · rw [hb]
        exact se_str (fin _ rfl)
      · rw [hb]
        exact se_strI (se_var (i := 2) rfl ⟨_, rfl, num_log hn, fin _ rfl⟩) B.str
      · rw [hb]
        exact se_strS (se_var (i := 2) rfl ⟨_, rfl, fin _ rfl⟩) B.str
    · obtain ⟨eb, ex3⟩ := q3
      rw [List.take_length] at eb
      have em : acc2 = (r.map partS).map W.str := by rw [eb, List.map_map]; rfl
      have sm := sum_le lo.2
      have l1 : (" " : Str).length = 1 := by decide +kernel
      refine ⟨D2, r.map partS, rfl, by rw [setM_same, em], by rw [l1]; have := lo.1; omega, ?_⟩
      exact ⟨by rw [ea, List.take_add_one, ht, List.map_append]; rfl, (ex.trans ex3).set (ex.none hD2)⟩
  · obtain ⟨ea, ex⟩ := q
    rw [List.length_map, List.take_length] at ea
    have em : acc = ((rows.map fun r => r.map partS).map (Txt.join " ")).map W.str := by rw [ea, List.map_map, List.map_map]; rfl
    have l1 : ("\n" : Str).length = 1 := by decide +kernel
    have each := (page_len (ls := rows.map fun r => r.map partS) (by rw [List.length_map]; exact hl) fun l hl => by
      obtain ⟨r, hr, rfl⟩ := List.mem_map.mp hl
      exact (ok r hr).1).1
    have sm := sum_le each
    rw [List.length_map, List.length_map] at sm
    refine ⟨Dd, (rows.map fun r => r.map partS).map (Txt.join " "), rfl, by rw [setM_same, em], by rw [l1, List.length_map, List.length_map]; omega, ?_⟩
    exact h _ (ex.set hDd)
theorem run_rows (es : List Ev) : ∃ rows : List (List W), es.map evW = rows.map W.tup ∧ (rows.map fun r => r.map partS) = es.map evL := by
  induction es with
  | nil => exact ⟨[], rfl, rfl⟩
  | cons e es ih =>
    obtain ⟨rows, h1, h2⟩ := ih
    obtain ⟨ps, h3, h4⟩ := parts_ev e
    exact ⟨ps :: rows, by rw [List.map_cons, List.map_cons, h1, h3], by rw [List.map_cons, List.map_cons, h2, h4]⟩
theorem hist_rows (es : List Rec) : ∃ rows : List (List W), es.map recW = rows.map W.tup ∧ (rows.map fun r => r.map partS) = es.map recL := by
  induction es with
  | nil => exact ⟨[], rfl, rfl⟩
  | cons e es ih =>
    obtain ⟨rows, h1, h2⟩ := ih
    obtain ⟨ps, h3, h4⟩ := parts_rec e
    exact ⟨ps :: rows, by rw [List.map_cons, List.map_cons, h1, h3], by rw [List.map_cons, List.map_cons, h2, h4]⟩
/-- what a page of data is made of -/
theorem rows_ok {xs : List W} {rows : List (List W)} {ls : List (List Str)} (h1 : xs = rows.map W.tup) (h2 : (rows.map fun r => r.map partS) = ls) (nm : ∀ x ∈ xs, Nm4 1 x) (ln : ∀ l ∈ ls, LnOk l) : ∀ r ∈ rows, LnOk (r.map partS) ∧ ∀ x ∈ r, PartOk x := fun r hr => by
  refine ⟨ln _ (h2 ▸ List.mem_map.mpr ⟨r, hr, rfl⟩), fun x hx => ok_leaf (n := 0) ?_⟩
  have : Nm4 1 (.tup r) := nm _ (h1 ▸ List.mem_map.mpr ⟨r, hr, rfl⟩)
  exact this x hx
end
end K1
set_option Elab.async false
set_option linter.all false
set_option maxRecDepth 100000
/-! The law's two looks. -/
namespace K1
open PySem L2 Dv
theorem eq_self (x : Str) : decide (x = x) = true := by simp
section
variable {P : Program} {w : World} {K : PySem.W.Frag} {mg : Str → Option Value} {base : Heap}
abbrev s_Lrun_right : Stmt := top 50
theorem sc_Lrun_right : FnScope ["_law_jar_here", "_law_names_here", "_law_walk", "_law_page"] ["_law_jar_here", "_law_names_here"] (defScope s_Lrun_right) := ⟨rfl, rfl, rfl, by decide +kernel, rfl, by decide +kernel, by decide +kernel⟩
def S_rright : SpW := fun ws mu P => ∃ p N ns c, ws = [.m p, .m N] ∧ NsOk mu N p ns ∧ JarOk mu p c ∧ c + 400 < 10000 ∧ ∀ mu', JarOk mu' p (c + 300) → ExtBut p mu mu' → P (.bl true) mu'
set_option maxHeartbeats 1000000 in
theorem d_Lrun_right (D : Dfn K mg "_law_run_right" s_Lrun_right ["_law_jar_here", "_law_names_here"]) (B : Bl mg) (D_events : DefOk P w K mg base "_law_events" ["_law_jar_here", "_law_names_here"] 3 S_events) (D_lines : DefOk P w K mg base "_law_lines" ["_law_rows"] 1 S_lines)
    (D_show : DefOk P w K mg base "show_run" ["run"] 6 S_show_run) (K_show : DefKw P w K mg base "show_run" "run" 6 S_show_run) (D_read : DefOk P w K mg base "read_run" ["text"] 7 S_read_run) (K_read : DefKw P w K mg base "read_run" "text" 7 S_read_run) : DefG P w K mg base "_law_run_right" ["_law_jar_here", "_law_names_here"] 8 S_rright := by
  refine dfnG D sc_Lrun_right (fun ws mu P ⟨_, _, _, _, e, _⟩ => by rw [e]; rfl) (fun f cdv A outer s H E hr hgd ws mu Pt ⟨p, N, ns, c, e, hN, jar, c1, h⟩ => ?_)
  subst e
  refine sss_cons (ss_asg (se_callD D_events (hr.mono (by decide)) (sa_cons (se_var (i := 0) rfl (sa_cons (se_var (i := 1) rfl (sa_nil ?_)))))))
  refine ⟨p, N, ns, c, rfl, hN, jar, by omega, fun es mu1 el ok j1 e1 => ?_⟩
  refine sg_name (i := 2) ?_ sc_Lrun_right.nd
  obtain ⟨rows, h1, h2⟩ := run_rows es
  have rl : rows.length ≤ 29 := by have := congrArg List.length h1; rw [List.length_map, List.length_map] at this; omega
  refine sss_cons (ss_asg (se_callD D_lines (hr.mono (by decide)) (sa_cons (se_var (i := 2) rfl (sa_nil ?_)))))
  refine ⟨rows, by rw [← h1]; rfl, by omega, rows_ok h1 h2 (fun x hx => by obtain ⟨e, he, rfl⟩ := List.mem_map.mp hx; exact ev_nm (ok e he)) (fun l hl => by obtain ⟨e, he, rfl⟩ := List.mem_map.mp hl; exact ev_ln (ok e he)), fun mu2 e2 => ?_⟩
  rw [h2]
  refine sg_name (i := 3) ?_ sc_Lrun_right.nd
  refine sss_cons (ss_if (st_of_w (sw_or (st_cmp op_ne neS_w (nomark _) ?_))))
  refine se_callD D_show (hr.mono (by decide)) (sa_cons (se_var (i := 2) rfl (sa_nil ?_)))
  refine ⟨es, rfl, by omega, ok, fun mu3 e3 => ?_⟩
  refine se_var (i := 3) rfl ⟨_, _, rfl, rfl, fun b hb => ?_⟩
  rw [hb.trans (ne_self _)]
  refine sw_or1 (st_cmp op_ne neS_w (nomark _) ?_)
  refine se_kw1 K_show (hr.mono (by decide)) (se_var (i := 2) rfl ?_)
  refine ⟨es, rfl, by omega, ok, fun mu4 e4 => ?_⟩
  refine se_var (i := 3) rfl ⟨_, _, rfl, rfl, fun b hb => ?_⟩
  rw [hb.trans (ne_self _)]
  refine sss_nil ?_
  have s2 := shows_of 2 _ (run_nm ok)
  have z2 : sz (runW es) ≤ 100000 := Nat.le_trans (run_sz es) (by omega)
  refine sss_cons (ss_ret (se_and (se_cmp op_eq eqT_w (nomark _) ?_)))
  refine se_repr hr hgd ?_ B.repr
  refine se_callD D_read (hr.mono (by decide)) (sa_cons (se_var (i := 3) rfl (sa_nil ?_)))
  refine ⟨es, rfl, by omega, ok, fun mu5 e5 => s2.repr trivial (by decide) z2 ?_⟩
  refine se_repr hr hgd (se_var (i := 2) rfl (s2.repr trivial (by decide) z2 ?_)) B.repr
  refine ⟨_, _, rfl, rfl, fun b hb => ?_⟩
  rw [hb.trans (eq_self _)]
  refine se_one (se_cmp op_eq eqT_w (nomark _) ?_)
  refine se_repr hr hgd ?_ B.repr
  refine se_kw1 K_read (hr.mono (by decide)) (se_var (i := 3) rfl ?_)
  refine ⟨es, rfl, by omega, ok, fun mu6 e6 => s2.repr trivial (by decide) z2 ?_⟩
  refine se_repr hr hgd (se_var (i := 2) rfl (s2.repr trivial (by decide) z2 ?_)) B.repr
  refine ⟨_, _, rfl, rfl, fun b hb => ?_⟩
  rw [hb.trans (eq_self _)]
  have ee : Ext mu1 mu6 := ((((e2.trans e3).trans e4).trans e5).trans e6)
  exact h _ ((j1.mono (by omega)).ext ee) (e1.trans (Ext.but ee))
abbrev s_Lbook_right : Stmt := top 51
theorem sc_Lbook_right : FnScope ["_law_jar_here", "_law_names_here", "_law_book_here", "_law_page"] ["_law_jar_here", "_law_names_here"] (defScope s_Lbook_right) := ⟨rfl, rfl, rfl, by decide +kernel, rfl, by decide +kernel, by decide +kernel⟩
set_option maxHeartbeats 1000000 in
theorem d_Lbook_right (D : Dfn K mg "_law_book_right" s_Lbook_right ["_law_jar_here", "_law_names_here"]) (B : Bl mg) (D_book : DefOk P w K mg base "_law_book" ["_law_jar_here", "_law_names_here"] 4 S_book) (D_lines : DefOk P w K mg base "_law_lines" ["_law_rows"] 1 S_lines) (D_is : DefOk P w K mg base "is_history" ["value"] 4 S_is_history)
    (D_show : DefOk P w K mg base "show_history" ["history"] 6 S_show_history) (K_show : DefKw P w K mg base "show_history" "history" 6 S_show_history) (D_read : DefOk P w K mg base "read_history" ["text"] 7 S_read_history) (K_read : DefKw P w K mg base "read_history" "text" 7 S_read_history) : DefG P w K mg base "_law_book_right" ["_law_jar_here", "_law_names_here"] 8 S_rright := by
  refine dfnG D sc_Lbook_right (fun ws mu P ⟨_, _, _, _, e, _⟩ => by rw [e]; rfl) (fun f cdv A outer s H E hr hgd ws mu Pt ⟨p, N, ns, c, e, hN, jar, c1, h⟩ => ?_)
  subst e
  refine sss_cons (ss_asg (se_callD D_book (hr.mono (by decide)) (sa_cons (se_var (i := 0) rfl (sa_cons (se_var (i := 1) rfl (sa_nil ?_)))))))
  refine ⟨p, N, ns, c, rfl, hN, jar, by omega, fun es mu1 ho j1 e1 => ?_⟩
  have el := ho.len
  have ok := ho.each
  refine sg_name (i := 2) ?_ sc_Lbook_right.nd
  obtain ⟨rows, h1, h2⟩ := hist_rows es
  have rl : rows.length ≤ 29 := by have := congrArg List.length h1; rw [List.length_map, List.length_map] at this; omega
  refine sss_cons (ss_asg (se_callD D_lines (hr.mono (by decide)) (sa_cons (se_var (i := 2) rfl (sa_nil ?_)))))
  refine ⟨rows, by rw [← h1]; rfl, by omega, rows_ok h1 h2 (fun x hx => by obtain ⟨e, he, rfl⟩ := List.mem_map.mp hx; exact rec_nm (ok e he)) (fun l hl => by obtain ⟨e, he, rfl⟩ := List.mem_map.mp hl; exact rec_ln (ok e he)), fun mu2 e2 => ?_⟩
  rw [h2]
  refine sg_name (i := 3) ?_ sc_Lbook_right.nd
  refine sss_cons (ss_if (st_of_w (sw_or (st_cmp op_notBl notB_w (nomark _) ?_))))
  refine se_callD D_is (hr.mono (by decide)) (sa_cons (se_var (i := 2) rfl (sa_nil ?_)))
  refine ⟨⟨es, rfl, ho⟩, fun mu3 e3 => ?_⟩
  refine se_bl ⟨_, _, rfl, rfl, fun b hb => ?_⟩
  rw [hb]
  refine sw_or (st_cmp op_ne neS_w (nomark _) ?_)
  refine se_callD D_show (hr.mono (by decide)) (sa_cons (se_var (i := 2) rfl (sa_nil ?_)))
  refine ⟨es, rfl, ho, fun mu4 e4 => ?_⟩
  refine se_var (i := 3) rfl ⟨_, _, rfl, rfl, fun b hb => ?_⟩
  rw [hb.trans (ne_self _)]
  refine sw_or1 (st_cmp op_ne neS_w (nomark _) ?_)
  refine se_kw1 K_show (hr.mono (by decide)) (se_var (i := 2) rfl ?_)
  refine ⟨es, rfl, ho, fun mu5 e5 => ?_⟩
  refine se_var (i := 3) rfl ⟨_, _, rfl, rfl, fun b hb => ?_⟩
  rw [hb.trans (ne_self _)]
  refine sss_nil ?_
  have nm := hist_nm ok
  have s2 := shows_of 2 _ nm
  have z2 : sz (histW es) ≤ 100000 := Nat.le_trans (hist_sz es) (by omega)
  have q2 : eqD (histW es) (histW es) = true := eqv_refl _ s2.lay
  refine sss_cons (ss_ret (se_and (se_cmp op_eq eqT_w (nomark _) ?_)))
  refine se_repr hr hgd ?_ B.repr
  refine se_callD D_read (hr.mono (by decide)) (sa_cons (se_var (i := 3) rfl (sa_nil ?_)))
  refine ⟨es, rfl, ho, fun mu6 e6 => s2.repr trivial (by decide) z2 ?_⟩
  refine se_repr hr hgd (se_var (i := 2) rfl (s2.repr trivial (by decide) z2 ?_)) B.repr
  refine ⟨_, _, rfl, rfl, fun b hb => ?_⟩
  rw [hb.trans (eq_self _)]
  refine se_one (se_cmp (op_eqD hr.units) eq_w (nomark _) ?_)
  refine se_kw1 K_read (hr.mono (by decide)) (se_var (i := 3) rfl ?_)
  refine ⟨es, rfl, ho, fun mu7 e7 => ?_⟩
  refine se_var (i := 2) rfl (eqD_w nm nm (by decide) ?_)
  rw [q2]
  have ee : Ext mu1 mu7 := (((((e2.trans e3).trans e4).trans e5).trans e6).trans e7)
  exact h _ (j1.ext ee) (e1.trans (Ext.but ee))
end
end K1
set_option Elab.async false
set_option linter.all false
set_option maxRecDepth 100000
/-! law. -/
namespace K1
open PySem L2 Dv
section
variable {X : Cx}
theorem max2_w : CallW X (fun xs H Q => ∃ i j, xs = [.int i, .int j] ∧ Q (.int (if j > i then j else i)) H) fun ws mu P => ∃ i j, ws = [.int i, .int j] ∧ P (.int (if j > i then j else i)) mu := fun ws vs mu H P Q d m ⟨i, j, e, q⟩ k => by
  subst e
  obtain ⟨x, y, e, d1, d2⟩ := d.two
  have d1 : x = .int i := d1
  have d2 : y = .int j := d2
  subst e d1 d2
  exact ⟨i, j, rfl, k.now q rfl m⟩
theorem min2_w : CallW X (fun xs H Q => ∃ i j, xs = [.int i, .int j] ∧ Q (.int (if j < i then j else i)) H) fun ws mu P => ∃ i j, ws = [.int i, .int j] ∧ P (.int (if j < i then j else i)) mu := fun ws vs mu H P Q d m ⟨i, j, e, q⟩ k => by
  subst e
  obtain ⟨x, y, e, d1, d2⟩ := d.two
  have d1 : x = .int i := d1
  have d2 : y = .int j := d2
  subst e d1 d2
  exact ⟨i, j, rfl, k.now q rfl m⟩
end
theorem page0 : pageOf [] = ("" : Str) := by decide +kernel
theorem ne_same {mu : Mu} {a b : Addr} {ws : List W} {P : PW1} (ha : mu a = some (.lst ws)) (hb : mu b = some (.lst ws)) (pl : plsW ws = true) (sh : SeqAt.shaped (.list (dats ws)) = true) (ly : (PyData.list (dats ws)).canLay0 = true) (h : P (.bl false) mu) : neW (.m a) (.m b) mu P := by
  refine ⟨.list (dats ws), .list (dats ws), ?_, ?_, sh, sh, ?_⟩
  · simp only [asD, ha]
    exact if_pos pl
  · simp only [asD, hb]
    exact if_pos pl
  · rw [eqv_refl _ ly]
    exact h
theorem hist0 : HistOk [] := BkOk.nil.hist
section
variable {P : Program} {w : World} {K : PySem.W.Frag} {mg : Str → Option Value} {base : Heap} {f a : Addr} {fd : FuncData} {ns : List Int}
abbrev s_law : Stmt := top 52
theorem sc_law : FnScope ["_law_script", "_law_k", "_law_jar_here", "_law_names_here", "_law_turn"] ["_law_script"] (defScope s_law) := ⟨rfl, rfl, rfl, by decide +kernel, rfl, by decide +kernel, by decide +kernel⟩
def S_law (a : Addr) : SpW := fun ws mu P => ws = [.m a] ∧ ∀ mu', P (.bl true) mu'
set_option maxHeartbeats 1000000 in
theorem ok_law (F : Fun K "law" "law" s_law f fd) (B : Bl mg) (sc : Scr base a ns) (D_jar : DefOk P w K mg base "_law_jar" ["_law_script", "_law_k"] 1 (S_jar a)) (D_take : DTake P w K mg base) (D_names : DefOk P w K mg base "_law_names" ["_law_jar_here", "_law_many"] 3 S_names)
    (D_srun : DefOk P w K mg base "show_run" ["run"] 6 S_show_run) (D_shist : DefOk P w K mg base "show_history" ["history"] 6 S_show_history) (D_rrun : DefOk P w K mg base "read_run" ["text"] 7 S_read_run) (D_rhist : DefOk P w K mg base "read_history" ["text"] 7 S_read_history)
    (D_run : DefG P w K mg base "_law_run_right" ["_law_jar_here", "_law_names_here"] 8 S_rright) (D_book : DefG P w K mg base "_law_book_right" ["_law_jar_here", "_law_names_here"] 8 S_rright) : FnG P w K mg base 9 f fd ["_law_script"] (spW K (S_law a)) := by
  refine okG F sc_law (fun ws mu P ⟨e, _⟩ => by rw [e]; rfl) (fun cdv A outer s H E hr hgd ws mu Pt ⟨e, h⟩ => ?_)
  subst e
  refine sss_cons (ss_if (st_cmp (op_neD hr.units) ne_w (nomark _) ?_))
  refine se_lst (sa_cons (se_callD D_srun (hr.mono (by decide)) (sa_cons (se_tup (sa_nil ⟨by decide, sa_nil ?_⟩)))))
  refine ⟨[], rfl, by decide, by simp, fun mu1 e1 => ?_⟩
  refine sa_cons (se_callD D_shist (hr.mono (by decide)) (sa_cons (se_tup (sa_nil ⟨by decide, sa_nil ?_⟩))))
  refine ⟨[], rfl, hist0, fun mu2 e2 => ?_⟩
  refine sa_cons (se_callD D_rrun (hr.mono (by decide)) (sa_cons (se_str (sa_nil ?_))))
  refine ⟨[], by rw [List.map_nil, page0], by decide, by simp, fun mu3 e3 => ?_⟩
  refine sa_cons (se_callD D_rhist (hr.mono (by decide)) (sa_cons (se_str (sa_nil ?_))))
  refine ⟨[], by rw [List.map_nil, page0], hist0, fun mu4 e4 => ?_⟩
  refine sa_nil ⟨by show 4 ≤ sizeLine; decide, fun a1 m1 => ?_⟩
  refine se_lst (sa_cons (se_str (sa_cons (se_str (sa_cons (se_tup (sa_nil ⟨by decide, sa_cons (se_tup (sa_nil ⟨by decide, sa_nil ?_⟩))⟩)))))))
  refine ⟨by show 4 ≤ sizeLine; decide, fun a2 m2 => ?_⟩
  have n12 : a1 ≠ a2 := fun z => by rw [z, setM_same] at m2; cases m2
  refine ne_same (ws := [.str "", .str "", .tup [], .tup []]) ?_ setM_same (by decide +kernel) (by decide +kernel) (by decide +kernel) ?_
  · rw [setM_ne n12, setM_same, List.map_nil, List.map_nil, page0]
    rfl
  generalize setM (setM mu4 a1 _) a2 _ = mu5
  refine sss_nil ?_
  refine sss_cons ?_
  refine ss_for PassesOwn.never rfl (by intro _; rfl) ?_
  refine si_range ?_ B.range
  refine se_blt (call_max2 rfl) max2_w B.max ?_
  refine sa_cons (se_int (sa_cons (se_blt (call_min2 rfl) min2_w B.min ?_)))
  refine sa_cons (se_int (sa_cons (se_lenB sc (se_var (i := 0) rfl ⟨rfl, sa_nil ?_⟩) B.len)))
  refine ⟨_, _, rfl, sa_nil ⟨_, _, rfl, ?_⟩⟩
  have hr4 : ∀ n : Nat, ∃ r : Nat, r ≤ 4 ∧ (if (if ((n : Nat) : Int) < 4 then ((n : Nat) : Int) else 4) > 1 then (if ((n : Nat) : Int) < 4 then ((n : Nat) : Int) else 4) else (1 : Int)) = (r : Nat) := fun n => by
    by_cases h1 : ((n : Nat) : Int) < 4
    · by_cases h2 : ((n : Nat) : Int) > 1
      · exact ⟨n, by omega, by rw [if_pos h1, if_pos h2]⟩
      · exact ⟨1, by omega, by rw [if_pos h1, if_neg h2]; rfl⟩
    · exact ⟨4, by omega, by rw [if_neg h1, if_pos (by decide)]; rfl⟩
  obtain ⟨r, r4, er⟩ := hr4 ns.length
  rw [er]
  refine ⟨by omega, by omega, ?_⟩
  rw [Int.toNat_natCast]
  refine ⟨fun i G' mu' => ∃ x y z, G' = [some (.m a), x, y, z, none], ⟨none, none, none, rfl⟩, fun _ _ _ _ _ => trivial, fun i u G' mu' hu ⟨x, y, z, eG⟩ => ?_, fun G' mu' ⟨x, y, z, eG⟩ => ?_⟩
  · subst eG
    have hi : i < r := by have := (List.getElem?_eq_some_iff.mp hu).1; simpa using this
    have eu : u = .int ((i : Nat) : Int) := by
      rw [List.getElem?_map, List.getElem?_range hi] at hu
      exact (Option.some.inj hu).symm
    subst eu
    refine sg_name (i := 1) ?_ sc_law.nd
    refine sss_cons (ss_asg (se_callD D_jar (hr.mono (by decide)) (sa_cons (se_var (i := 0) rfl (sa_cons (se_var (i := 1) rfl (sa_nil ?_)))))))
    refine ⟨i, rfl, by omega, fun j mu6 nj jar e6 => ?_⟩
    refine sg_name (i := 2) ?_ sc_law.nd
    refine sss_cons (ss_asg (se_callD D_names (hr.mono (by decide)) (sa_cons (se_var (i := 2) rfl (sa_cons (se_bin op_Add Add_w (se_int ?_)))))))
    refine se_callD D_take (hr.mono (by decide)) (sa_cons (se_var (i := 2) rfl (sa_cons (se_int (sa_nil ?_)))))
    refine ⟨j, 5, 0, rfl, by decide, by decide, jar, by decide, fun q mu7 q0 q1 j7 e7 => ?_⟩
    obtain ⟨k, rfl⟩ : ∃ k : Nat, q = k := ⟨q.toNat, by omega⟩
    have ek : (1 : Int) + ((k : Nat) : Int) = ((1 + k : Nat) : Int) := by omega
    show SA _ _ _ _ _
    rw [ek]
    refine sa_nil ⟨j, 1 + k, 1, rfl, by omega, j7, by decide, fun N nms mu8 mN hN hl _ nm j8 e8 => ?_⟩
    refine sg_name (i := 3) ?_ sc_law.nd
    have Nj : N ≠ j := Ne.symm (j7.ne mN)
    have ok8 : NsOk mu8 N j nms := ⟨hN, Nj, by omega, by omega, nm⟩
    refine sss_cons (ss_if (st_not (st_val (se_all ?_ B.all))))
    refine se_lc (own := [("_law_turn", 4)]) (.nm 4) rfl sc_law.nd (blkOk_by (N := ["_law_script", "_law_k", "_law_jar_here", "_law_names_here", "_law_turn"]) (sc := defScope s_law) (by decide +kernel)) rfl (fun _ _ _ _ _ => (pg_name (i := 4) sc_law.nd rfl (Or.inl rfl))) (by intro _; rfl) ?_
    refine si_range ?_ B.range
    refine se_int ⟨by decide, by decide, ?_⟩
    intro D hD
    refine ⟨fun k acc mu2 => acc = List.replicate k (W.bl true) ∧ JarOk mu2 j (11 + k * 600) ∧ NsOk mu2 N j nms, ⟨rfl, j8, ok8⟩, fun _ _ _ _ _ => trivial, fun k v acc mu9 hv ⟨ea, jr, no⟩ => ?_, fun acc mu9 ⟨ea, jr, no⟩ => ?_⟩
    · have k3 : k < 3 := by have := (List.getElem?_eq_some_iff.mp hv).1; simpa using this
      refine ⟨by rw [ea, List.length_replicate]; exact Nat.lt_of_lt_of_le k3 (by decide), _, rfl, fun s H C cl fp => ?_⟩
      refine se_and (se_callG D_run (hr.mono (by decide)) hgd (sa_cons (se_var (i := 2) rfl (sa_cons (se_var (i := 3) rfl (sa_nil ?_))))))
      refine ⟨j, N, nms, 11 + k * 600, rfl, no, jr, by omega, fun mu10 j10 e10 => ?_⟩
      refine se_one (se_callG D_book (hr.mono (by decide)) hgd (sa_cons (se_var (i := 2) rfl (sa_cons (se_var (i := 3) rfl (sa_nil ?_))))))
      refine ⟨j, N, nms, _, rfl, ⟨e10 _ _ Nj no.1, no.2⟩, j10, by omega, fun mu11 j11 e11 => ⟨?_, j11.mono (by omega), e11 _ _ Nj (e10 _ _ Nj no.1), no.2⟩⟩
      rw [ea, List.replicate_succ']
    · refine ⟨[true, true, true], by rw [setM_same, ea]; rfl, ?_⟩
      refine sss_nil ?_
      refine sss_nil ?_
      exact ⟨_, _, _, rfl⟩
  · subst eG
    exact sss_cons (ss_ret (se_bl (h _)))
end
end K1
set_option Elab.async false
set_option linter.all false
set_option maxRecDepth 100000
/-! All together. -/
namespace K1
open PySem L2 Dv
section
variable {P : Program} {w : World} {K : PySem.W.Frag} {mg : Str → Option Value} {h : Heap}
theorem dfn_by {x : Str} {st : Stmt} {ps : List Str} {f : Addr} {oc : Value} {od an : Option Addr} {osl : Array (Option Value)} {kV doc pm cdv ct : Value} (X : K.In h) (G : h.Ns mainGlobals mg)
    (b : ∀ (kV doc pm : Value) (an : Option Addr) (cdv ct : Value) (us : List Value), us.length = ps.length → bindArgs (PySem.W.fnOf x x (defArgs st) (defBody st) (defScope st) .none kV doc pm an cdv ct) ⟨us, []⟩ = pure (ps.zip us))
    (a : PySem.W.nsIn K mainGlobals x = some (some (.ref f))) (l : K.lookup f = some ⟨oc, od, .func (PySem.W.fnOf x x (defArgs st) (defBody st) (defScope st) .none kV doc pm an cdv ct), osl⟩)
    (c : PySem.W.codeIn K cdv x = true) (k : PySem.W.keepIn K (.ref f) = true) : Dfn K mg x st ps :=
  ⟨f, _, fun_mk l c k, PySem.W.mg_of X G a, (fun_mk l c k).binds b⟩
theorem bl_by (X : K.In h) (G : h.Ns mainGlobals mg) {t1 : Tok} (b1 : PySem.W.nsIn K mainGlobals "isinstance" = some none) (b2 : PySem.W.nsIn K mainGlobals "tuple" = some none) (b3 : PySem.W.nsIn K mainGlobals "list" = some none) (b4 : PySem.W.nsIn K mainGlobals "str" = some none)
    (b5 : PySem.W.nsIn K mainGlobals "len" = some none) (b6 : PySem.W.nsIn K mainGlobals "all" = some none) (b7 : PySem.W.nsIn K mainGlobals "any" = some none) (b8 : PySem.W.nsIn K mainGlobals "zip" = some none) (b9 : PySem.W.nsIn K mainGlobals "set" = some none)
    (b10 : PySem.W.nsIn K mainGlobals "range" = some none) (b11 : PySem.W.nsIn K mainGlobals "sorted" = some none) (b12 : PySem.W.nsIn K mainGlobals "int" = some none) (b13 : PySem.W.nsIn K mainGlobals "abs" = some none) (b14 : PySem.W.nsIn K mainGlobals "min" = some none)
    (b15 : PySem.W.nsIn K mainGlobals "max" = some none) (b16 : PySem.W.nsIn K mainGlobals "enumerate" = some none) (b17 : PySem.W.nsIn K mainGlobals "dict" = some none) (b18 : PySem.W.nsIn K mainGlobals "repr" = some none)
    (b19 : PySem.W.nsIn K mainGlobals "LETTERS" = some (some (.str "abcdefghijklmnopqrstuvwxyz" t1))) : Bl mg :=
  ⟨PySem.W.mg_none_of X G b1, PySem.W.mg_none_of X G b2, PySem.W.mg_none_of X G b3, PySem.W.mg_none_of X G b4, PySem.W.mg_none_of X G b5, PySem.W.mg_none_of X G b6, PySem.W.mg_none_of X G b7, PySem.W.mg_none_of X G b8, PySem.W.mg_none_of X G b9, PySem.W.mg_none_of X G b10, PySem.W.mg_none_of X G b11, PySem.W.mg_none_of X G b12, PySem.W.mg_none_of X G b13, PySem.W.mg_none_of X G b14, PySem.W.mg_none_of X G b15, PySem.W.mg_none_of X G b16, PySem.W.mg_none_of X G b17, PySem.W.mg_none_of X G b18, ⟨_, PySem.W.mg_of X G b19⟩⟩
theorem kdic_by {x : Str} {d : Addr} {es : Array DictEntry} {n : Nat} {a1 a2 a3 : Addr} {i1 i2 i3 : Array Value} {n1 n2 n3 : Nat} {s1 s2 s3 : Array (Option Value)} (X : K.In h) (G : h.Ns mainGlobals mg) (g : PySem.W.nsIn K mainGlobals x = some (some (.ref d))) (l : K.lookup d = some ⟨.type "dict", none, .dict es n, #[]⟩) (k : PySem.W.KeysLit w.params es.toList)
    (e1 : PySem.W.nsIn K d "put" = some (some (.ref a1))) (l1 : K.lookup a1 = some ⟨.type "tuple", none, .seq i1 n1, s1⟩) (z1 : i1.size ≤ sizeLine) (r1 : Vals ([("done" : Str), "refused", "again"].map V.str) i1.toList)
    (e2 : PySem.W.nsIn K d "drop" = some (some (.ref a2))) (l2 : K.lookup a2 = some ⟨.type "tuple", none, .seq i2 n2, s2⟩) (z2 : i2.size ≤ sizeLine) (r2 : Vals ([("done" : Str), "none", "again"].map V.str) i2.toList)
    (e3 : PySem.W.nsIn K d "look" = some (some (.ref a3))) (l3 : K.lookup a3 = some ⟨.type "tuple", none, .seq i3 n3, s3⟩) (z3 : i3.size ≤ sizeLine) (r3 : Vals ([("there" : Str), "none", "again"].map V.str) i3.toList) : KDic K w mg x answersOf :=
  ⟨d, PySem.W.mg_of X G g, fun z ys hf => by
    unfold answersOf at hf
    split at hf
    · rename_i q; cases hf; subst q; exact ⟨a1, _, i1, n1, ⟨es, n, _, l, k, e1, rfl⟩, l1, rfl, rfl, z1, r1⟩
    · split at hf
      · rename_i q; cases hf; subst q; exact ⟨a2, _, i2, n2, ⟨es, n, _, l, k, e2, rfl⟩, l2, rfl, rfl, z2, r2⟩
      · split at hf
        · rename_i q; cases hf; subst q; exact ⟨a3, _, i3, n3, ⟨es, n, _, l, k, e3, rfl⟩, l3, rfl, rfl, z3, r3⟩
        · cases hf⟩
theorem kno_by {x : Str} (X : K.In h) (G : h.Ns mainGlobals mg) (g : PySem.W.nsIn K mainGlobals x = some none) : KNo mg x := ⟨PySem.W.mg_none_of X G g⟩
theorem kint_by {x : Str} {n : Int} {t : Tok} (X : K.In h) (G : h.Ns mainGlobals mg) (g : PySem.W.nsIn K mainGlobals x = some (some (.int n t))) : KInt mg x n := ⟨_, PySem.W.mg_of X G g⟩
theorem kstr_by {x z : Str} {t : Tok} (X : K.In h) (G : h.Ns mainGlobals mg) (g : PySem.W.nsIn K mainGlobals x = some (some (.str z t))) : KStr mg x z := ⟨_, PySem.W.mg_of X G g⟩
theorem ktup_by {x : Str} {ys : List Str} {a : Addr} {its : Array Value} {n : Nat} {osl : Array (Option Value)} (X : K.In h) (G : h.Ns mainGlobals mg) (g : PySem.W.nsIn K mainGlobals x = some (some (.ref a))) (l : K.lookup a = some ⟨.type "tuple", none, .seq its n, osl⟩) (z : its.size ≤ sizeLine) (r : Vals (ys.map V.str) its.toList) : KTup K mg x ys :=
  ⟨a, _, its, n, PySem.W.mg_of X G g, l, rfl, rfl, rfl, z, r⟩
set_option maxHeartbeats 1000000 in
theorem all_by {fa : Addr} (hfa : mg "law" = some (.ref fa)) 
    (B : Bl mg) (KT_bool : KNo mg "bool") (KT_DIGITS : KStr mg "DIGITS" "0123456789") (KT_NUMBERED : KTup K mg "NUMBERED" numbered) (KT_SORTS : KTup K mg "SORTS" sorts) (KT_ANSWERS : KDic K w mg "ANSWERS" answersOf) (KT_MOST_RECORDS : KInt mg "MOST_RECORDS" 24) (KT_MOST_OF_A_KEY : KInt mg "MOST_OF_A_KEY" 8) (D_law : Dfn K mg "law" s_law ["_law_script"])
    (D_is_tuple : Dfn K mg "is_tuple" s_is_tuple ["value", "least", "most"])
    (D_is_rising : Dfn K mg "is_rising" s_is_rising ["values"])
    (D_is_name : Dfn K mg "is_name" s_is_name ["value"])
    (D_Ltake : Dfn K mg "_law_take" s_Ltake ["_law_jar_here", "_law_many"])
    (D_Lof : Dfn K mg "_law_of" s_Lof ["_law_jar_here", "_law_some"])
    (D_Lnames : Dfn K mg "_law_names" s_Lnames ["_law_jar_here", "_law_many"])
    (D_Ljar : Dfn K mg "_law_jar" s_Ljar ["_law_script", "_law_k"])
    (D_is_integer : Dfn K mg "is_integer" s_is_integer ["value"])
    (D_is_decimal : Dfn K mg "is_decimal" s_is_decimal ["word"])
    (D_is_event : Dfn K mg "is_event" s_is_event ["value"])
    (D_event_in : Dfn K mg "event_in" s_event_in ["words"])
    (D_record_in : Dfn K mg "record_in" s_record_in ["words"])
    (D_is_time : Dfn K mg "is_time_of_record" s_is_time ["value"])
    (D_is_record : Dfn K mg "is_record" s_is_record ["value"])
    (D_are_different : Dfn K mg "are_different" s_are_different ["names"])
    (D_keys_of : Dfn K mg "keys_of" s_keys_of ["history"])
    (D_numbers_of : Dfn K mg "numbers_of" s_numbers_of ["history", "key"])
    (D_is_history : Dfn K mg "is_history" s_is_history ["value"])
    (D_check_history : Dfn K mg "check_history" s_check_history ["value"])
    (D_text_of : Dfn K mg "text_of" s_text_of ["lines"])
    (D_words_of : Dfn K mg "words_of_record" s_words_of ["record"])
    (D_texts : Dfn K mg "text_of_records" s_texts ["records"])
    (D_show_history : Dfn K mg "show_history" s_show_history ["history"])
    (D_show_run : Dfn K mg "show_run" s_show_run ["run"])
    (D_lines_of : Dfn K mg "lines_of" s_lines_of ["text"])
    (D_parts_of : Dfn K mg "parts_of" s_parts_of ["text", "form"])
    (D_read_run : Dfn K mg "read_run" s_read_run ["text"])
    (D_read_history : Dfn K mg "read_history" s_read_history ["text"])
    (D_Levents : Dfn K mg "_law_events" s_Levents ["_law_jar_here", "_law_names_here"])
    (D_Lanswer : Dfn K mg "_law_answer" s_Lanswer ["_law_jar_here", "_law_sort"])
    (D_Lbook : Dfn K mg "_law_book" s_Lbook ["_law_jar_here", "_law_names_here"])
    (D_Llines : Dfn K mg "_law_lines" s_Llines ["_law_rows"])
    (D_Lrun_right : Dfn K mg "_law_run_right" s_Lrun_right ["_law_jar_here", "_law_names_here"])
    (D_Lbook_right : Dfn K mg "_law_book_right" s_Lbook_right ["_law_jar_here", "_law_names_here"]) :
    ∃ fd : FuncData, (∀ (s : Shared) (v : Value), BindsTo s fd ⟨[v], []⟩ [("_law_script", v)]) ∧ ∀ (base : Heap) (a : Addr) (ns : List Int), K.In base → base.Ns mainGlobals mg → Scr base a ns → FnG P w K mg base 9 fa fd ["_law_script"] (spW K (S_law a)) := by
  obtain ⟨f, fd, F, hm, hb⟩ := D_law.ex
  have e := hfa.symm.trans hm
  cases e
  refine ⟨fd, fun s v => ?_, fun base a ns _ _ sc => ?_⟩
  · obtain ⟨oc, od, kV, doc, pm, an, cdv, ct, osl, efd, lk, hcd⟩ := F.ex
    subst efd
    exact .of_eq rfl
  · skip
    have E_is_tuple := d_is_tuple (P := P) (w := w) (base := base) D_is_tuple B
    have E_is_rising := d_is_rising (P := P) (w := w) (base := base) D_is_rising B
    have E_is_name := d_is_name (P := P) (w := w) (base := base) D_is_name B
    have E__law_take := d_Ltake (P := P) (w := w) (base := base) D_Ltake B
    have E__law_of := d_Lof (P := P) (w := w) (base := base) D_Lof B E__law_take
    have E__law_names := d_Lnames (P := P) (w := w) (base := base) D_Lnames B E__law_take E__law_of
    have E__law_jar := d_Ljar (P := P) (w := w) (base := base) sc D_Ljar B
    have E_is_integer := d_is_integer (P := P) (w := w) (base := base) D_is_integer B KT_bool
    have E_is_decimal := d_is_decimal (P := P) (w := w) (base := base) D_is_decimal B KT_DIGITS
    have E_is_event := d_is_event (P := P) (w := w) (base := base) D_is_event B KT_NUMBERED E_is_tuple E_is_name E_is_integer
    have E_event_in := d_event_in (P := P) (w := w) (base := base) D_event_in B KT_NUMBERED E_is_name E_is_decimal
    have E_record_in := d_record_in (P := P) (w := w) (base := base) D_record_in B E_is_name E_is_decimal
    have E_is_time_of_record := d_is_time (P := P) (w := w) (base := base) D_is_time E_is_integer
    have E_is_record := d_is_record (P := P) (w := w) (base := base) D_is_record B KT_SORTS KT_ANSWERS E_is_tuple E_is_time_of_record E_is_name
    have E_are_different := d_are_different (P := P) (w := w) (base := base) D_are_different B
    have E_keys_of := d_keys_of (P := P) (w := w) (base := base) D_keys_of B
    have E_numbers_of := d_numbers_of (P := P) (w := w) (base := base) D_numbers_of B
    have E_is_history := d_is_history (P := P) (w := w) (base := base) D_is_history B KT_MOST_RECORDS KT_MOST_OF_A_KEY E_is_tuple E_is_record E_is_rising E_are_different E_keys_of E_numbers_of
    have E_check_history := d_check_history (P := P) (w := w) (base := base) D_check_history E_is_history
    have E_text_of := d_text_of (P := P) (w := w) (base := base) D_text_of
    have E_words_of_record := d_words_of (P := P) (w := w) (base := base) D_words_of B
    have E_text_of_records := d_texts (P := P) (w := w) (base := base) D_texts B E_text_of E_words_of_record
    obtain ⟨E_show_history, EK_show_history⟩ := d_show_history (P := P) (w := w) (base := base) D_show_history E_check_history E_text_of_records
    obtain ⟨E_show_run, EK_show_run⟩ := d_show_run (P := P) (w := w) (base := base) D_show_run B E_text_of E_is_event
    have E_lines_of := d_lines_of (P := P) (w := w) (base := base) D_lines_of B
    have E_parts_of := d_parts_of (P := P) (w := w) (base := base) D_parts_of B E_lines_of
    obtain ⟨E_read_run, EK_read_run⟩ := d_read_run (P := P) (w := w) (base := base) D_read_run E_parts_of E_event_in
    obtain ⟨E_read_history, EK_read_history⟩ := d_read_history (P := P) (w := w) (base := base) D_read_history E_parts_of E_record_in E_check_history
    have E__law_events := d_Levents (P := P) (w := w) (base := base) D_Levents B E__law_take E__law_of
    have E__law_answer := d_Lanswer (P := P) (w := w) (base := base) D_Lanswer E__law_of
    have E__law_book := d_Lbook (P := P) (w := w) (base := base) D_Lbook B E__law_take E__law_of E__law_answer
    have E__law_lines := d_Llines (P := P) (w := w) (base := base) D_Llines B
    have E__law_run_right := d_Lrun_right (P := P) (w := w) (base := base) D_Lrun_right B E__law_events E__law_lines E_show_run EK_show_run E_read_run EK_read_run
    have E__law_book_right := d_Lbook_right (P := P) (w := w) (base := base) D_Lbook_right B E__law_book E__law_lines E_is_history E_show_history EK_show_history E_read_history EK_read_history
    exact ok_law F B sc E__law_jar E__law_take E__law_names E_show_run E_show_history E_read_run E_read_history E__law_run_right E__law_book_right
end
end K1
set_option Elab.async false
set_option linter.all false
set_option maxRecDepth 100000
open PySem PySem.W PyProof.Rows
set_option maxHeartbeats 0 in
theorem PySem.Challenge.cw_unlikekeys_k11_texts_of_runs_and_histori_holds : PySem.Challenge.rw_unlikekeys_k11_texts_of_runs_and_histori.Holds := by
  w_on; o_law; k_head; (case hw => w_witness2)
  k_fill
  refine Dv.walkG (l := PySem.Challenge.rw_unlikekeys_k11_texts_of_runs_and_histori) (k := 9) (S := K1.S_law) (x := "_law_script") rfl rfl ⟨rfl, by decide, by decide⟩ (fun w h Y => PySem.W.kIn_of Y) ?F ?S
  case S => exact fun a P h => ⟨rfl, h⟩
  case F =>
    intro w mg fa h KX G hmg
    refine' K1.all_by hmg  ?B ?KT_bool ?KT_DIGITS ?KT_NUMBERED ?KT_SORTS ?KT_ANSWERS ?KT_MOST_RECORDS ?KT_MOST_OF_A_KEY ?Dlaw ?D_is_tuple ?D_is_rising ?D_is_name ?D_Ltake ?D_Lof ?D_Lnames ?D_Ljar ?D_is_integer ?D_is_decimal ?D_is_event ?D_event_in ?D_record_in ?D_is_time ?D_is_record ?D_are_different ?D_keys_of ?D_numbers_of ?D_is_history ?D_check_history ?D_text_of ?D_words_of ?D_texts ?D_show_history ?D_show_run ?D_lines_of ?D_parts_of ?D_read_run ?D_read_history ?D_Levents ?D_Lanswer ?D_Lbook ?D_Llines ?D_Lrun_right ?D_Lbook_right
    case B =>
      refine' K1.bl_by KX G ?b1 ?b2 ?b3 ?b4 ?b5 ?b6 ?b7 ?b8 ?b9 ?b10 ?b11 ?b12 ?b13 ?b14 ?b15 ?b16 ?b17 ?b18 ?b19
      (case b1 => k_is); (case b2 => k_is); (case b3 => k_is); (case b4 => k_is); (case b5 => k_is); (case b6 => k_is); (case b7 => k_is); (case b8 => k_is); (case b9 => k_is); (case b10 => k_is); (case b11 => k_is); (case b12 => k_is); (case b13 => k_is); (case b14 => k_is); (case b15 => k_is); (case b16 => k_is); (case b17 => k_is); (case b18 => k_is); (case b19 => k_is)
    case KT_bool =>
      refine' K1.kno_by KX G ?g
      (case g => k_is)
    case KT_DIGITS =>
      refine' K1.kstr_by KX G ?g
      (case g => k_is)
    case KT_NUMBERED =>
      refine' K1.ktup_by KX G ?g ?l ?z ?r
      (case g => k_is); (case l => k_is); (case z => decide +kernel); (case r => exact .cons ⟨_, rfl⟩ (.cons ⟨_, rfl⟩ (.cons ⟨_, rfl⟩ (.cons ⟨_, rfl⟩ (.cons ⟨_, rfl⟩ .nil)))))
    case KT_SORTS =>
      refine' K1.ktup_by KX G ?g ?l ?z ?r
      (case g => k_is); (case l => k_is); (case z => decide +kernel); (case r => exact .cons ⟨_, rfl⟩ (.cons ⟨_, rfl⟩ (.cons ⟨_, rfl⟩ .nil)))
    case KT_ANSWERS =>
      refine' K1.kdic_by KX G ?g ?l ?k ?e1 ?l1 ?z1 ?r1 ?e2 ?l2 ?z2 ?r2 ?e3 ?l3 ?z3 ?r3
      (case g => k_is); (case l => k_is); (case k => k_keys); (case e1 => k_is); (case l1 => k_is); (case z1 => decide +kernel); (case r1 => exact .cons ⟨_, rfl⟩ (.cons ⟨_, rfl⟩ (.cons ⟨_, rfl⟩ .nil))); (case e2 => k_is); (case l2 => k_is); (case z2 => decide +kernel); (case r2 => exact .cons ⟨_, rfl⟩ (.cons ⟨_, rfl⟩ (.cons ⟨_, rfl⟩ .nil))); (case e3 => k_is); (case l3 => k_is); (case z3 => decide +kernel); (case r3 => exact .cons ⟨_, rfl⟩ (.cons ⟨_, rfl⟩ (.cons ⟨_, rfl⟩ .nil)))
    case KT_MOST_RECORDS =>
      refine' K1.kint_by KX G ?g
      (case g => k_is)
    case KT_MOST_OF_A_KEY =>
      refine' K1.kint_by KX G ?g
      (case g => k_is)
    case Dlaw =>
      refine' K1.dfn_by KX G (fun _ _ _ _ _ _ us hl => match us, hl with | [_], _ => rfl) ?a ?l ?c ?k
      (case a => k_is); (case l => k_is); (case c => k_is); (case k => k_is)
    case D_is_tuple =>
      refine' K1.dfn_by KX G (fun _ _ _ _ _ _ us hl => match us, hl with | [_, _, _], _ => rfl) ?a ?l ?c ?k
      (case a => k_is); (case l => k_is); (case c => k_is); (case k => k_is)
    case D_is_rising =>
      refine' K1.dfn_by KX G (fun _ _ _ _ _ _ us hl => match us, hl with | [_], _ => rfl) ?a ?l ?c ?k
      (case a => k_is); (case l => k_is); (case c => k_is); (case k => k_is)
    case D_is_name =>
      refine' K1.dfn_by KX G (fun _ _ _ _ _ _ us hl => match us, hl with | [_], _ => rfl) ?a ?l ?c ?k
      (case a => k_is); (case l => k_is); (case c => k_is); (case k => k_is)
    case D_Ltake =>
      refine' K1.dfn_by KX G (fun _ _ _ _ _ _ us hl => match us, hl with | [_, _], _ => rfl) ?a ?l ?c ?k
      (case a => k_is); (case l => k_is); (case c => k_is); (case k => k_is)
    case D_Lof =>
      refine' K1.dfn_by KX G (fun _ _ _ _ _ _ us hl => match us, hl with | [_, _], _ => rfl) ?a ?l ?c ?k
      (case a => k_is); (case l => k_is); (case c => k_is); (case k => k_is)
    case D_Lnames =>
      refine' K1.dfn_by KX G (fun _ _ _ _ _ _ us hl => match us, hl with | [_, _], _ => rfl) ?a ?l ?c ?k
      (case a => k_is); (case l => k_is); (case c => k_is); (case k => k_is)
    case D_Ljar =>
      refine' K1.dfn_by KX G (fun _ _ _ _ _ _ us hl => match us, hl with | [_, _], _ => rfl) ?a ?l ?c ?k
      (case a => k_is); (case l => k_is); (case c => k_is); (case k => k_is)
    case D_is_integer =>
      refine' K1.dfn_by KX G (fun _ _ _ _ _ _ us hl => match us, hl with | [_], _ => rfl) ?a ?l ?c ?k
      (case a => k_is); (case l => k_is); (case c => k_is); (case k => k_is)
    case D_is_decimal =>
      refine' K1.dfn_by KX G (fun _ _ _ _ _ _ us hl => match us, hl with | [_], _ => rfl) ?a ?l ?c ?k
      (case a => k_is); (case l => k_is); (case c => k_is); (case k => k_is)
    case D_is_event =>
      refine' K1.dfn_by KX G (fun _ _ _ _ _ _ us hl => match us, hl with | [_], _ => rfl) ?a ?l ?c ?k
      (case a => k_is); (case l => k_is); (case c => k_is); (case k => k_is)
    case D_event_in =>
      refine' K1.dfn_by KX G (fun _ _ _ _ _ _ us hl => match us, hl with | [_], _ => rfl) ?a ?l ?c ?k
      (case a => k_is); (case l => k_is); (case c => k_is); (case k => k_is)
    case D_record_in =>
      refine' K1.dfn_by KX G (fun _ _ _ _ _ _ us hl => match us, hl with | [_], _ => rfl) ?a ?l ?c ?k
      (case a => k_is); (case l => k_is); (case c => k_is); (case k => k_is)
    case D_is_time =>
      refine' K1.dfn_by KX G (fun _ _ _ _ _ _ us hl => match us, hl with | [_], _ => rfl) ?a ?l ?c ?k
      (case a => k_is); (case l => k_is); (case c => k_is); (case k => k_is)
    case D_is_record =>
      refine' K1.dfn_by KX G (fun _ _ _ _ _ _ us hl => match us, hl with | [_], _ => rfl) ?a ?l ?c ?k
      (case a => k_is); (case l => k_is); (case c => k_is); (case k => k_is)
    case D_are_different =>
      refine' K1.dfn_by KX G (fun _ _ _ _ _ _ us hl => match us, hl with | [_], _ => rfl) ?a ?l ?c ?k
      (case a => k_is); (case l => k_is); (case c => k_is); (case k => k_is)
    case D_keys_of =>
      refine' K1.dfn_by KX G (fun _ _ _ _ _ _ us hl => match us, hl with | [_], _ => rfl) ?a ?l ?c ?k
      (case a => k_is); (case l => k_is); (case c => k_is); (case k => k_is)
    case D_numbers_of =>
      refine' K1.dfn_by KX G (fun _ _ _ _ _ _ us hl => match us, hl with | [_, _], _ => rfl) ?a ?l ?c ?k
      (case a => k_is); (case l => k_is); (case c => k_is); (case k => k_is)
    case D_is_history =>
      refine' K1.dfn_by KX G (fun _ _ _ _ _ _ us hl => match us, hl with | [_], _ => rfl) ?a ?l ?c ?k
      (case a => k_is); (case l => k_is); (case c => k_is); (case k => k_is)
    case D_check_history =>
      refine' K1.dfn_by KX G (fun _ _ _ _ _ _ us hl => match us, hl with | [_], _ => rfl) ?a ?l ?c ?k
      (case a => k_is); (case l => k_is); (case c => k_is); (case k => k_is)
    case D_text_of =>
      refine' K1.dfn_by KX G (fun _ _ _ _ _ _ us hl => match us, hl with | [_], _ => rfl) ?a ?l ?c ?k
      (case a => k_is); (case l => k_is); (case c => k_is); (case k => k_is)
    case D_words_of =>
      refine' K1.dfn_by KX G (fun _ _ _ _ _ _ us hl => match us, hl with | [_], _ => rfl) ?a ?l ?c ?k
      (case a => k_is); (case l => k_is); (case c => k_is); (case k => k_is)
    case D_texts =>
      refine' K1.dfn_by KX G (fun _ _ _ _ _ _ us hl => match us, hl with | [_], _ => rfl) ?a ?l ?c ?k
      (case a => k_is); (case l => k_is); (case c => k_is); (case k => k_is)
    case D_show_history =>
      refine' K1.dfn_by KX G (fun _ _ _ _ _ _ us hl => match us, hl with | [_], _ => rfl) ?a ?l ?c ?k
      (case a => k_is); (case l => k_is); (case c => k_is); (case k => k_is)
    case D_show_run =>
      refine' K1.dfn_by KX G (fun _ _ _ _ _ _ us hl => match us, hl with | [_], _ => rfl) ?a ?l ?c ?k
      (case a => k_is); (case l => k_is); (case c => k_is); (case k => k_is)
    case D_lines_of =>
      refine' K1.dfn_by KX G (fun _ _ _ _ _ _ us hl => match us, hl with | [_], _ => rfl) ?a ?l ?c ?k
      (case a => k_is); (case l => k_is); (case c => k_is); (case k => k_is)
    case D_parts_of =>
      refine' K1.dfn_by KX G (fun _ _ _ _ _ _ us hl => match us, hl with | [_, _], _ => rfl) ?a ?l ?c ?k
      (case a => k_is); (case l => k_is); (case c => k_is); (case k => k_is)
    case D_read_run =>
      refine' K1.dfn_by KX G (fun _ _ _ _ _ _ us hl => match us, hl with | [_], _ => rfl) ?a ?l ?c ?k
      (case a => k_is); (case l => k_is); (case c => k_is); (case k => k_is)
    case D_read_history =>
      refine' K1.dfn_by KX G (fun _ _ _ _ _ _ us hl => match us, hl with | [_], _ => rfl) ?a ?l ?c ?k
      (case a => k_is); (case l => k_is); (case c => k_is); (case k => k_is)
    case D_Levents =>
      refine' K1.dfn_by KX G (fun _ _ _ _ _ _ us hl => match us, hl with | [_, _], _ => rfl) ?a ?l ?c ?k
      (case a => k_is); (case l => k_is); (case c => k_is); (case k => k_is)
    case D_Lanswer =>
      refine' K1.dfn_by KX G (fun _ _ _ _ _ _ us hl => match us, hl with | [_, _], _ => rfl) ?a ?l ?c ?k
      (case a => k_is); (case l => k_is); (case c => k_is); (case k => k_is)
    case D_Lbook =>
      refine' K1.dfn_by KX G (fun _ _ _ _ _ _ us hl => match us, hl with | [_, _], _ => rfl) ?a ?l ?c ?k
      (case a => k_is); (case l => k_is); (case c => k_is); (case k => k_is)
    case D_Llines =>
      refine' K1.dfn_by KX G (fun _ _ _ _ _ _ us hl => match us, hl with | [_], _ => rfl) ?a ?l ?c ?k
      (case a => k_is); (case l => k_is); (case c => k_is); (case k => k_is)
    case D_Lrun_right =>
      refine' K1.dfn_by KX G (fun _ _ _ _ _ _ us hl => match us, hl with | [_, _], _ => rfl) ?a ?l ?c ?k
      (case a => k_is); (case l => k_is); (case c => k_is); (case k => k_is)
    case D_Lbook_right =>
      refine' K1.dfn_by KX G (fun _ _ _ _ _ _ us hl => match us, hl with | [_, _], _ => rfl) ?a ?l ?c ?k
      (case a => k_is); (case l => k_is); (case c => k_is); (case k => k_is)
