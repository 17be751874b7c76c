"""Leasttariff: tariffs with a price at once and one by the piece, and which is cheapest for how many."""
