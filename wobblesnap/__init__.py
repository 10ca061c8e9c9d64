"""wobblesnap: drawings clicked by a hand that wobbles."""
