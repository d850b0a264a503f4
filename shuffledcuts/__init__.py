"""Counts of orders by runs, shuffles and cuts."""
