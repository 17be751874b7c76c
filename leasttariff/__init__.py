"""Leasttariff: tariffs with a price at once and one by the piece, which is cheapest for how many,
and what shows that one is never needed."""
