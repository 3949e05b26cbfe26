"""Things kept and made: goods in bags, and what they cost."""
