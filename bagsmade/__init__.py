"""Things kept and made: goods in bags, what they cost, plans and machines that make them."""
