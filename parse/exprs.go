package parse

import "athanor/api"

// exprs, apps and atoms are the rules of expressions, in lists in which the next token tells the way.
func exprs() []rule[api.Expr] {
	return []rule[api.Expr]{
		{api.TokKey, "fun", (*reader).function},
		{api.TokKey, "let", (*reader).binding},
		{api.TokKey, "if", (*reader).choice},
		{api.TokKey, "case", (*reader).cases},
		{0, "", (*reader).sequence},
	}
}

func apps() []rule[api.Expr] {
	return []rule[api.Expr]{
		{api.TokKey, "print", (*reader).printing},
		{api.TokUp, "", (*reader).conWithArgs},
		{0, "", (*reader).application},
	}
}

func atoms() []rule[api.Expr] {
	return []rule[api.Expr]{
		{api.TokLow, "", (*reader).variable},
		{api.TokInt, "", (*reader).number},
		{api.TokUp, "", (*reader).constant},
		{api.TokSign, "(", (*reader).inBrackets},
	}
}

func (r *reader) expr() api.Expr {
	return one(r, exprs())
}

func (r *reader) function() api.Expr {
	e := api.Expr{Kind: api.ExFun, At: r.mark("fun")}
	e.Name = r.word(api.TokLow).Text
	r.mark("->")
	e.Args = []api.Expr{r.expr()}
	return e
}

func (r *reader) binding() api.Expr {
	e := api.Expr{Kind: api.ExLet, At: r.mark("let")}
	if r.is("rec") {
		r.mark("rec")
		e.Kind = api.ExRec
	}
	e.Name = r.word(api.TokLow).Text
	if e.Kind == api.ExRec {
		e.Param = r.word(api.TokLow).Text
	}
	r.mark("=")
	bound := r.expr()
	r.mark("in")
	e.Args = []api.Expr{bound, r.expr()}
	return e
}

func (r *reader) choice() api.Expr {
	at := r.mark("if")
	asked := r.expr()
	r.mark("then")
	yes := r.expr()
	r.mark("else")
	no := r.expr()
	pats := []api.Pat{{Kind: api.PatCon, Name: "True", At: at}, {Kind: api.PatCon, Name: "False", At: at}}
	return api.Expr{Kind: api.ExCase, Args: []api.Expr{asked, yes, no}, Pats: pats, At: at}
}

func (r *reader) cases() api.Expr {
	e := api.Expr{Kind: api.ExCase, At: r.mark("case")}
	e.Args = append(e.Args, r.expr())
	r.mark("of")
	r.branch(&e)
	for r.is("|") {
		r.mark("|")
		r.branch(&e)
	}
	r.mark("end")
	return e
}

// branch reads a branch, and puts it behind those that the case has.
func (r *reader) branch(e *api.Expr) {
	e.Pats = append(e.Pats, r.pat())
	r.mark("->")
	e.Args = append(e.Args, r.expr())
}

func (r *reader) sequence() api.Expr {
	first := r.comparison()
	if !r.is(";") {
		return first
	}
	r.mark(";")
	unit := api.Pat{Kind: api.PatCon, Name: "Unit", At: first.At}
	return api.Expr{Kind: api.ExCase, Args: []api.Expr{first, r.expr()}, Pats: []api.Pat{unit}, At: first.At}
}

func (r *reader) comparison() api.Expr {
	left := r.sum()
	if !r.isOne("<", "==") {
		return left
	}
	return r.operation(left, (*reader).sum)
}

func (r *reader) sum() api.Expr {
	left := r.product()
	for r.isOne("+", "-") {
		left = r.operation(left, (*reader).product)
	}
	return left
}

func (r *reader) product() api.Expr {
	left := r.app()
	for r.isOne("*", "/", "%") {
		left = r.operation(left, (*reader).app)
	}
	return left
}

// isOne tells whether the next token is one of those signs.
func (r *reader) isOne(signs ...string) bool {
	for _, sign := range signs {
		if r.is(sign) {
			return true
		}
	}
	return false
}

// operation reads a sign and what stands at its right, by the rule that binds closer.
func (r *reader) operation(left api.Expr, closer func(*reader) api.Expr) api.Expr {
	sign := r.word(api.TokSign).Text
	return api.Expr{Kind: api.ExPrim, Name: sign, Args: []api.Expr{left, closer(r)}, At: left.At}
}

func (r *reader) app() api.Expr {
	return one(r, apps())
}

func (r *reader) printing() api.Expr {
	at := r.mark("print")
	return api.Expr{Kind: api.ExPrint, Args: []api.Expr{r.atom()}, At: at}
}

func (r *reader) conWithArgs() api.Expr {
	e := r.constant()
	e.Args = several(r, atoms())
	return e
}

func (r *reader) application() api.Expr {
	e := r.atom()
	for begun(r, atoms()) {
		e = api.Expr{Kind: api.ExApp, Args: []api.Expr{e, r.atom()}, At: e.At}
	}
	return e
}

func (r *reader) atom() api.Expr {
	return one(r, atoms())
}

func (r *reader) variable() api.Expr {
	token := r.word(api.TokLow)
	return api.Expr{Kind: api.ExVar, Name: token.Text, At: token.At}
}

func (r *reader) number() api.Expr {
	token := r.word(api.TokInt)
	return api.Expr{Kind: api.ExInt, N: token.N, At: token.At}
}

func (r *reader) constant() api.Expr {
	token := r.word(api.TokUp)
	return api.Expr{Kind: api.ExCon, Name: token.Text, At: token.At}
}

func (r *reader) inBrackets() api.Expr {
	r.mark("(")
	e := r.expr()
	r.mark(")")
	return e
}
