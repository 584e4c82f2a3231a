package stock_test

import (
	"fmt"

	"bondstore/api"
	"bondstore/stock"
	"bondstore/store"
	"bondstore/wide"
	"bondstore/wire"
)

func Example() {
	s, _ := store.New(600)
	ask := func(q api.Request, err api.Errno) api.Reply {
		if err != api.OK {
			return api.Reply{Err: err}
		}
		b, _ := wire.Bytes(q)
		p, _ := wire.ReadReply(s.Do(b))
		return p
	}
	count := func() {
		c, err := stock.Read(ask(stock.Ask("BOLT", "NY")))
		fmt.Println(wide.Show(c.OnHand), wide.Show(c.Held), wide.Show(c.Shipped), err)
	}
	count()
	ask(stock.Open("BOLT", "NY"))
	ask(stock.Receive(wide.Of(1), "BOLT", "NY", wide.Of(10)))
	ask(stock.Reserve(wide.Of(2), "BOLT", "NY", wide.Of(4), 60))
	count()
	ask(stock.Ship(wide.Of(3), wide.Of(2), wide.Of(3)))
	count()
	fmt.Println(ask(stock.Ship(wide.Of(4), wide.Of(2), wide.Of(1))).Results)
	// Output:
	// 0 0 0 5
	// 10 4 0 0
	// 7 0 3 0
	// [27]
}
