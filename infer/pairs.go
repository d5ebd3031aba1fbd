package infer

// pair is a key, and what stands beside it.
type pair[K comparable, V any] struct {
	key   K
	value V
}

// with is a list of pairs with one more behind them. Lists that go on from one list may share room: of them only the newest is used.
func with[K comparable, V any](l []pair[K, V], key K, value V) []pair[K, V] {
	return append(l, pair[K, V]{key: key, value: value})
}

// find tells what stands beside a key, of several alike beside the last.
func find[K comparable, V any](l []pair[K, V], key K) V {
	for i := len(l) - 1; i >= 0; i-- {
		if l[i].key == key {
			return l[i].value
		}
	}
	var none V
	return none
}
