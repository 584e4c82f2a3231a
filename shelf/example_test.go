package shelf_test

import (
	"fmt"

	"bondstore/shelf"
	"bondstore/wide"
)

func Example() {
	p, err := shelf.Parse("BOLT@NY", shelf.OnHand)
	n, wrong := shelf.Id(p)
	fmt.Println(err, wrong, wide.Show(n))
	again, is := shelf.Of(n)
	fmt.Println(again.Good, again.Site, again.State, is)
	fmt.Println(shelf.Show(again))
	_, err = shelf.Parse("bolt@NY", shelf.OnHand)
	fmt.Println(err)
	// Output:
	// 0 0 1334420320281912788561989750156447554
	// BOLT NY 1 true
	// BOLT@NY
	// 4
}
